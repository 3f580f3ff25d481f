"""Programs and products read from their texts (15.3)."""

from howhigh.errors import BadText
from howhigh.kinds import ascending, is_name
from howhigh.programs import Program
from howhigh.statements import CHOICE_WORDS
from howhigh.sumtexts import product_in, sum_in, term_in
from howhigh.texts import SEPARATORS

MOST_BLOCKS_DEEP = 30


def read_product(text):
    """The product of names with this text."""
    if not isinstance(text, str):
        raise BadText(0)
    product = product_in(text)
    if product is None:
        raise BadText(1)
    return product


def read_program(text):
    """The program with this text."""
    if not isinstance(text, str):
        raise BadText(0)
    *lines, rest = text.split("\n")
    reader = ProgramReader()
    for number, line in enumerate(lines):
        if not reader.take(line):
            raise BadText(number + 1)
    if rest or reader.main is None:
        raise BadText(len(lines) + 1)
    return Program(reader.names, reader.bodies_found, reader.main)


class Opened:
    """A statement, body or main, by the words of its first line, whose blocks are read up to its done."""

    def __init__(self, words):
        self.words = words
        self.blocks = [[]]


class ProgramReader:
    """Takes the lines of a text of a program, one behind the other; main is None up to its done."""

    def __init__(self):
        self.names = None
        self.bodies_found = {}
        self.main = None
        self._stack = []
        # The word of the last body; ahead of the first one what is less than all words.
        self._word = ""

    def take(self, line):
        """Take the line in, and whether it can stand here."""
        words = line.split(" ")
        if self.main is not None:
            return False
        if self.names is None:
            return self._take_names(words)
        if not self._stack:
            return self._take_opening(words)
        if words == ["done"]:
            return self._take_done()
        if words in (["or"], ["also"]):
            return self._take_separator(words[0])
        if words[0] == "loop" or words[0] in CHOICE_WORDS:
            return self._take_blocks(words)
        return self._take_statement(words)

    def _take_names(self, words):
        """Take the first line in."""
        first, *names = words
        if first != "names" or not names or not all([is_name(name) for name in names]) or not ascending(names):
            return False
        self.names = tuple(names)
        return True

    def _take_opening(self, words):
        """Take in a line that opens a body or main."""
        if words != ["main"]:
            if len(words) != 2 or words[0] != "body" or not is_name(words[1]) or words[1] <= self._word:
                return False
            self._word = words[1]
        self._stack.append(Opened(words))
        return True

    def _take_statement(self, words):
        """Take in a row or a call."""
        statement = _statement_of(words)
        if statement is None:
            return False
        self._stack[-1].blocks[-1].append(statement)
        return True

    def _take_blocks(self, words):
        """Take in a line that opens the first block of a loop, either or orders."""
        if len(self._stack) == MOST_BLOCKS_DEEP or not _can_be_opened(words):
            return False
        self._stack.append(Opened(words))
        return True

    def _take_separator(self, word):
        """Take in a line that opens a further block of an either or orders."""
        opened = self._stack[-1]
        if SEPARATORS.get(opened.words[0]) != word:
            return False
        opened.blocks.append([])
        return True

    def _take_done(self):
        """Take in a line that closes what was opened last."""
        opened = self._stack[-1]
        blocks = tuple([tuple(block) for block in opened.blocks])
        word = opened.words[0]
        if word in CHOICE_WORDS and len(blocks) < 2:
            return False
        self._stack.pop()
        if word == "main":
            self.main = blocks[0]
        elif word == "body":
            self.bodies_found[opened.words[1]] = blocks[0]
        elif word == "loop":
            self._stack[-1].blocks[-1].append(("loop", opened.words[1], blocks[0]))
        else:
            self._stack[-1].blocks[-1].append((word, blocks))
        return True


def _can_be_opened(words):
    """Whether these are the words of a line that opens the first block of a loop, either or orders."""
    if words[0] == "loop":
        return len(words) == 2 and is_name(words[1])
    return len(words) == 1


def _statement_of(words):
    """The row or call that has a line of these words, None if there is none."""
    if len(words) == 2:
        return ("call", words[1]) if words[0] == "call" and is_name(words[1]) else None
    if len(words) != 3 or not is_name(words[1]):
        return None
    word, name, text = words
    if word == "lift":
        content = term_in(text)
    elif word in ("add", "set"):
        content = sum_in(text)
    else:
        return None
    return None if content is None else (word, name, content)
