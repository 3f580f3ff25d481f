"""The desk: programs kept under names, asked and run by lines (section 16)."""

from howhigh.covers import covered
from howhigh.errors import NoProgram, NoRun, NothingDone
from howhigh.heights import height, top
from howhigh.lines import line_in, starts_text, way_text
from howhigh.reading import read_program
from howhigh.runs import Run
from howhigh.steps import steps_height
from howhigh.texts import height_text
from howhigh.ways import ways


class Desk:
    """Keeps programs and a run, and does lines; those that change something can be taken back."""

    def __init__(self):
        self._programs = {}
        self._run = None
        # How each line that can be taken back is: a word, and what was there before.
        self._past = []

    def tell(self, line):
        """Do a line, and its answer."""
        word, *told = line_in(line)
        if word == "undo":
            self._check_past()
            self._take_back()
            return "ok"
        return self._done(word, told)

    def undoable(self):
        """How many lines can be taken back."""
        return len(self._past)

    def would(self, line):
        """The answer that the line would have."""
        word, *told = line_in(line)
        if word == "undo":
            self._check_past()
            return "ok"
        many = len(self._past)
        answer = self._done(word, told)
        if len(self._past) > many:
            self._take_back()
        return answer

    def _check_past(self):
        if not self._past:
            raise NothingDone()

    def _take_back(self):
        """Take the last line back of those that can be."""
        word, *before = self._past.pop()
        if word == "choose":
            self._run.back()
        elif word == "begin":
            self._run = before[0]
        else:
            name, elder = before
            self._put(name, elder)

    def _put(self, name, program):
        """Keep the program under the name; for None, keep none under it any more."""
        if program is None:
            del self._programs[name]
        else:
            self._programs[name] = program

    def _done(self, word, told):
        """Do a line, but undo, by its word and what stands behind it, and its answer."""
        if word in ("program", "drop"):
            return self._keep(word, told)
        if word in ("begin", "choose", "look", "numbers"):
            return self._go_on(word, told)
        if word == "names":
            return " ".join(sorted(self._programs)) if self._programs else "-"
        return self._asked(word, told)

    def _keep(self, word, told):
        """Do a program or drop line."""
        name = told[0]
        program = read_program(told[1]) if word == "program" else None
        if program is None:
            self._kept(name)
        self._past.append(("keep", name, self._programs.get(name)))
        self._put(name, program)
        return "ok"

    def _kept(self, name):
        """The program kept under the name."""
        if name not in self._programs:
            raise NoProgram(name)
        return self._programs[name]

    def _asked(self, word, told):
        """The answer of a line that asks about programs."""
        program = self._kept(told[0])
        if word == "ways":
            return " ".join([way_text(way) for way in ways(program)])
        if word == "height":
            return height_text(height(program, told[1], told[2]))
        if word == "top":
            return height_text(top(program, told[1]))
        if word == "steps":
            return height_text(steps_height(program, told[1]))
        return "yes" if covered(program, self._kept(told[1]), told[2]) else "no"

    def _go_on(self, word, told):
        """Do a line of the run."""
        if word == "begin":
            run = Run(self._kept(told[0]), told[1])
            self._past.append((word, self._run))
            self._run = run
            return "ok"
        if word == "look":
            return _look(self._run)
        if self._run is None:
            raise NoRun()
        if word == "numbers":
            return starts_text(self._run.numbers)
        self._run.choose(told[0])
        self._past.append((word,))
        return "ok"


def _look(run):
    """What is to be chosen in the run."""
    if run is None:
        return "-"
    if run.choice is None:
        return "over"
    word, many = run.choice
    return f"{word} {many}"
