"""Programs and their rows (2.2 and 2.3)."""

from howhigh.errors import BadProgram, BadRows
from howhigh.forms import are_bodies, are_names, is_main
from howhigh.kinds import ascending, is_integer, is_row
from howhigh.statements import ROW_WORDS, blocks_in, whole_of, with_blocks


class Program:
    """A program of these names, with these bodies of its words and this main; it never changes.

    whole is main, written out.
    """

    def __init__(self, names, bodies, main):
        if not are_names(names):
            raise BadProgram("names")
        if not are_bodies(names, bodies):
            raise BadProgram("bodies")
        if not is_main(names, bodies, main):
            raise BadProgram("main")
        self.names = names
        self._bodies = {word: bodies[word] for word in sorted(bodies)}
        self.main = main
        self.whole = whole_of(main, self._bodies)

    @property
    def bodies(self):
        """A new dict from the words, ascending, to their blocks."""
        return dict(self._bodies)

    def __eq__(self, other):
        return (isinstance(other, Program) and self.names == other.names
                and self._bodies == other._bodies and self.main == other.main)


def rows(program):
    """The list of all rows as they stand: those of main, then those of the bodies, words ascending."""
    found = _rows_in(program.main)
    bodies = program.bodies
    for word in sorted(bodies):
        found.extend(_rows_in(bodies[word]))
    return found


def _rows_in(block):
    """The list of the rows of a block in the order of reading."""
    found = []
    for statement in block:
        if statement[0] in ROW_WORDS:
            found.append(statement)
        for inner in blocks_in(statement):
            found.extend(_rows_in(inner))
    return found


def without_rows(program, numbers):
    """The program without the rows of these numbers."""
    if not _can_go(rows(program), numbers):
        raise BadRows()
    main, at = _thinned(program.main, 0, numbers)
    bodies = program.bodies
    fresh = {}
    for word in sorted(bodies):
        fresh[word], at = _thinned(bodies[word], at, numbers)
    return Program(program.names, fresh, main)


def _can_go(all_rows, numbers):
    """Whether numbers is a strictly ascending row of numbers of add and lift rows."""
    if not is_row(numbers) or not all([is_integer(number) for number in numbers]):
        return False
    if not all([0 <= number < len(all_rows) for number in numbers]) or not ascending(numbers):
        return False
    return all([all_rows[number][0] != "set" for number in numbers])


def _thinned(block, at, numbers):
    """The block, its first row of the number at, without the rows of these numbers; and the number behind its rows."""
    kept = []
    for statement in block:
        if statement[0] in ROW_WORDS:
            if at not in numbers:
                kept.append(statement)
            at += 1
            continue
        blocks = []
        for inner in blocks_in(statement):
            fresh, at = _thinned(inner, at, numbers)
            blocks.append(fresh)
        kept.append(with_blocks(statement, blocks))
    return tuple(kept), at
