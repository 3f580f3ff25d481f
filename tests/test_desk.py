"""The desk (section 16)."""

import random
import unittest

from helper import (add, become, caught, either, lift, loop, odd_things, orders, program_p, program_r, some_programs, term)
from howhigh.covers import covered
from howhigh.desk import Desk
from howhigh.errors import HighError, NoLine, NoProgram, NoRun, NothingDone
from howhigh.heights import height, top
from howhigh.programs import Program
from howhigh.reading import read_program
from howhigh.runs import Run, played
from howhigh.steps import steps_height
from howhigh.texts import height_text, program_text
from howhigh.ways import ways


def line_of(name, program):
    return f"program {name} " + program_text(program).replace("\n", "|")


def desk_with(**programs):
    desk = Desk()
    for name, program in programs.items():
        desk.tell(line_of(name, program))
    return desk


def told(desk, line):
    """What tell returns, or the error as caught tells it."""
    try:
        return desk.tell(line)
    except HighError as error:
        return (type(error).__name__, *vars(error).values())


class ModelDesk:
    """A second telling of the desk: each state is kept whole, a run by its program, its starts and its choices."""

    def __init__(self):
        self.states = [({}, None)]

    def tell(self, line):
        programs, run = self.states[-1]
        word, _, rest = line.partition(" ")
        words = rest.split(" ") if rest else []
        if word == "program":
            name, _, text = rest.partition(" ")
            return self.push({**programs, name: read_program(text.replace("|", "\n"))}, run)
        if word == "undo":
            if len(self.states) == 1:
                raise NothingDone()
            self.states.pop()
            return "ok"
        if word == "look":
            if run is None:
                return "-"
            choice = self.played(run).choice
            return "over" if choice is None else f"{choice[0]} {choice[1]}"
        if word == "numbers" or word == "choose":
            if run is None:
                raise NoRun()
            now = self.played(run)
            if word == "numbers":
                return ",".join(f"{name}:{number}" for name, number in sorted(now.numbers.items()))
            now.choose(int(rest))
            return self.push(programs, (run[0], run[1], run[2] + [int(rest)]))
        if word == "names":
            return " ".join(sorted(programs)) or "-"
        for name in words[:2] if word == "covered" else words[:1]:
            if name not in programs:
                raise NoProgram(name)
        program = programs[words[0]]
        if word == "drop":
            return self.push({name: programs[name] for name in programs if name != words[0]}, run)
        if word == "begin":
            starts = {pair.split(":")[0]: int(pair.split(":")[1]) for pair in words[1].split(",")}
            Run(program, starts)
            return self.push(programs, (program, starts, []))
        if word == "ways":
            return " ".join(",".join(map(str, way)) or "-" for way in ways(program))
        if word == "covered":
            return "yes" if covered(program, programs[words[1]], tuple(words[2].split(","))) else "no"
        if word == "top":
            return height_text(top(program, words[1]))
        way = () if words[1] == "-" else tuple(int(number) for number in words[1].split(","))
        return height_text(height(program, way, words[2]) if word == "height" else steps_height(program, way))

    def push(self, programs, run):
        self.states.append((programs, run))
        return "ok"

    def played(self, run):
        program, starts, choices = run
        found = Run(program, starts)
        for number in choices:
            found.choose(number)
        return found

    def undoable(self):
        return len(self.states) - 1


class LinesTest(unittest.TestCase):
    def test_programs(self):
        desk = Desk()
        self.assertEqual(desk.tell("names"), "-")
        self.assertEqual(desk.tell(line_of("p", program_p())), "ok")
        self.assertEqual(desk.tell("program b names a|main|done|"), "ok")
        self.assertEqual(desk.tell(line_of("zzzzzzzz", program_r())), "ok")
        self.assertEqual(desk.tell("names"), "b p zzzzzzzz")
        self.assertEqual(desk.tell("drop p"), "ok")
        self.assertEqual(desk.tell("names"), "b zzzzzzzz")
        self.assertEqual(told(desk, "drop p"), ("NoProgram", "p"))

    def test_an_elder_program_under_the_same_name(self):
        desk = desk_with(p=program_p())
        self.assertEqual(desk.tell("ways p"), "-")
        self.assertEqual(desk.tell(line_of("p", program_r())), "ok")
        self.assertEqual((desk.tell("names"), desk.tell("ways p")), ("p", "0 1"))
        desk.tell("undo")
        self.assertEqual((desk.tell("names"), desk.tell("ways p")), ("p", "-"))
        desk.tell("drop p")
        desk.tell("undo")
        self.assertEqual(desk.tell("top p x"), "a*b,a^2,x")

    def test_ways(self):
        program = Program(("a",), {}, (orders((either((), ()),), ()), either((), (either((), (), (),),),)))
        self.assertEqual(desk_with(o=program).tell("ways o"), " ".join(",".join(map(str, way)) for way in ways(program)))
        self.assertEqual(desk_with(o=program_r()).tell("ways o"), "0 1")

    def test_heights_tops_and_steps(self):
        desk = desk_with(p=program_p(), r=program_r(), n=Program(("a", "x"), {}, (loop("a", add("x", term(1, x=1))), either((), (loop("x"),)))))
        self.assertEqual(desk.tell("height p - x"), "a*b,a^2,x")
        self.assertEqual(desk.tell("height p - a"), "a")
        self.assertEqual([desk.tell(f"height r {way} b") for way in "01"], ["b", "a,b"])
        self.assertEqual(desk.tell("top r b"), "a,b")
        self.assertEqual(desk.tell("height n 0 x"), "-")
        self.assertEqual(desk.tell("top n x"), "-")
        self.assertEqual([desk.tell(f"steps n {way}") for way in "01"], ["a", "-"])
        self.assertEqual(desk.tell("steps p -"), "a")
        self.assertEqual(desk.tell("steps r 1"), "1")
        self.assertEqual(told(desk, "height p 0 x"), ("BadWay",))
        self.assertEqual(told(desk, "height p 0 z"), ("BadWay",))
        self.assertEqual(told(desk, "height p - z"), ("NoName", "z"))
        self.assertEqual(told(desk, "top p z"), ("NoName", "z"))
        self.assertEqual(told(desk, "steps r -"), ("BadWay",))
        self.assertEqual(told(desk, "steps r 999999999"), ("BadWay",))

    def test_covered(self):
        desk = desk_with(p=program_p(), r=program_r(), q=Program(("a",), {}, ()))
        self.assertEqual([desk.tell(line) for line in ["covered p r x", "covered r p x", "covered r p b,x", "covered p r b"]], ["no", "yes", "yes", "yes"])
        for names in ["x,b", "b,b", "a,b,x", "z", "x,z"]:
            self.assertEqual(told(desk, f"covered p r {names}"), ("BadNames",))
        self.assertEqual(told(desk, "covered p q a"), ("Unlike",))
        self.assertEqual(told(desk, "covered z y a"), ("NoProgram", "z"))
        self.assertEqual(told(desk, "covered p y z"), ("NoProgram", "y"))
        desk.tell("program w names a b x|main|loop a|add b x|add x b|done|done|")
        self.assertEqual(told(desk, "covered w p b,x"), ("Above", "b"))
        desk.tell("program v names a b x|main|either|or|either|or|or|done|or|add x 1|done|done|")
        self.assertEqual(told(desk, "covered p v x"), ("TooMany", 4))

    def test_runs(self):
        desk = desk_with(p=program_p(), r=program_r())
        self.assertEqual(desk.tell("look"), "-")
        self.assertEqual(told(desk, "numbers"), ("NoRun",))
        self.assertEqual(told(desk, "choose 0"), ("NoRun",))
        self.assertEqual(desk.tell("begin p a:3,b:1,x:1"), "ok")
        self.assertEqual((desk.tell("look"), desk.tell("numbers")), ("loop 3", "a:3,b:1,x:1"))
        self.assertEqual(told(desk, "choose 4"), ("BadChoice",))
        self.assertEqual(desk.tell("choose 3"), "ok")
        self.assertEqual((desk.tell("look"), desk.tell("numbers")), ("over", "a:3,b:4,x:7"))
        self.assertEqual(told(desk, "choose 0"), ("Over",))
        self.assertEqual(desk.tell("begin r a:1,b:1,x:1"), "ok")
        self.assertEqual(desk.tell("look"), "either 2")
        self.assertEqual(told(desk, "choose 2"), ("BadChoice",))
        desk.tell("program o names a b x|main|orders|add x a|also|also|done|done|")
        self.assertEqual(desk.tell("look"), "either 2")
        desk.tell("begin o a:5,b:1,x:1")
        self.assertEqual(desk.tell("look"), "orders 6")

    def test_wrong_starts_and_long_runs(self):
        desk = desk_with(p=program_p())
        for starts in ["a:0,b:1,x:1", "a:1,b:1", "a:1,b:1,x:1,y:1", "a:1,b:1,y:1"]:
            self.assertEqual(told(desk, f"begin p {starts}"), ("BadStarts",))
        desk.tell("begin p a:9999,b:1,x:1")
        self.assertEqual(told(desk, "choose 9999"), ("TooLong",))
        self.assertEqual((desk.tell("look"), desk.tell("numbers"), desk.undoable()), ("loop 9999", "a:9999,b:1,x:1", 2))
        # 3 steps a round.
        self.assertEqual(desk.tell("choose 3333"), "ok")
        self.assertEqual(desk.tell("numbers"), "a:9999,b:3334,x:5556112")
        power = Program(("a",), {}, tuple(lift("a", 1, a=3) for _ in range(12)))
        self.assertEqual(told(desk_with(e=power), "begin e a:999999999"), ("TooLong",))

    def test_great_numbers_are_written_out(self):
        power = Program(("a",), {}, tuple(lift("a", 1, a=3) for _ in range(4)))
        desk = desk_with(e=power)
        desk.tell("begin e a:999999999")
        self.assertEqual(desk.tell("numbers"), f"a:{999999999 ** 81}")

    def test_a_run_goes_on_with_its_program(self):
        desk = desk_with(p=program_p())
        desk.tell("begin p a:3,b:1,x:1")
        desk.tell("drop p")
        self.assertEqual(desk.tell("look"), "loop 3")
        desk.tell(line_of("p", program_r()))
        self.assertEqual(desk.tell("choose 2"), "ok")
        self.assertEqual(desk.tell("numbers"), "a:3,b:3,x:4")
        desk.tell("undo")
        self.assertEqual((desk.tell("look"), desk.tell("ways p")), ("loop 3", "0 1"))

    def test_undo_down_to_the_beginning(self):
        desk = desk_with(r=program_r())
        lines = [line_of("p", program_p()), "begin p a:3,b:1,x:1", "choose 1", "begin r a:1,b:1,x:1", "choose 0", line_of("r", program_p()), "drop p",
                 "begin r a:2,b:2,x:2", "choose 2"]
        seen = []
        for line in lines:
            seen.append((desk.tell("names"), desk.tell("look"), told(desk, "numbers"), told(desk, "ways r"), desk.undoable()))
            self.assertEqual(desk.tell(line), "ok")
        self.assertEqual(desk.undoable(), 10)
        for state in reversed(seen):
            self.assertEqual(desk.tell("undo"), "ok")
            self.assertEqual((desk.tell("names"), desk.tell("look"), told(desk, "numbers"), told(desk, "ways r"), desk.undoable()), state)
        self.assertEqual(desk.tell("undo"), "ok")
        self.assertEqual((desk.tell("names"), desk.undoable()), ("-", 0))
        self.assertEqual(told(desk, "undo"), ("NothingDone",))

    def test_lines_that_cannot_be_taken_back(self):
        desk = desk_with(p=program_p())
        for line in ["names", "ways p", "height p - x", "top p x", "steps p -", "covered p p x", "look"]:
            desk.tell(line)
            self.assertEqual(desk.undoable(), 1)
        for line in ["drop q", "choose 0", "begin p a:1", "program q x", "begin q a:1", "numbers", "nothing"]:
            self.assertEqual(type(told(desk, line)), tuple)
            self.assertEqual(desk.undoable(), 1)
        desk.tell("undo")
        self.assertEqual(told(desk, "undo"), ("NothingDone",))
        self.assertEqual(told(desk, "undo"), ("NothingDone",))


class FormsTest(unittest.TestCase):
    def setUp(self):
        self.desk = desk_with(p=program_p(), r=program_r())
        self.desk.tell("begin p a:3,b:1,x:1")

    def no_line(self, line):
        for action in (self.desk.tell, self.desk.would):
            self.assertEqual(caught(action, line), ("NoLine",), line)

    def test_what_is_no_string(self):
        for odd in odd_things():
            if not (isinstance(odd, str)):
                self.no_line(odd)
        self.no_line(b"look")
        self.no_line(["look"])
        self.no_line(("look",))

    def test_lines_of_no_form(self):
        for line in ["", " ", "look ", " look", "Look", "look x", "names p", "undo 1", "tell", "program", "program p", "program  x", "program P x", "program p1 names",
                     "drop", "drop ", "drop p r", "drop P", "ways", "ways p -", "height p x", "height p - x y", "height p  x", "height p - X", "top p", "top p x y",
                     "top p X", "steps p", "steps p ", "covered p r", "covered p r ", "covered p r x b", "covered p r x,", "covered p r ,x", "covered p r x,,b",
                     "covered p r X", "covered p r x b", "covered P r x", "begin p", "begin p ", "choose", "choose ", "choose a", "choose 1 2", "numbers x", "look\t",
                     "height p -  x", "drop abcdefghi", "top p abcdefghi", "would look", "undoable"]:
            self.no_line(line)

    def test_line_feeds(self):
        for line in ["look\n", "\nlook", "lo\nok", "program q names a|main|done|\n", "program q names a\nmain\ndone\n", "names\n"]:
            self.no_line(line)

    def test_numbers(self):
        for number in ["01", "00", "-1", "+1", "1.0", "1_0", "1234567890", "0000000000", "x", "", "-", "1,0", " 1", "#"]:
            self.no_line(f"choose {number}")
            if number not in ("-", "1,0"):
                self.no_line(f"height r {number} x")
                self.no_line(f"steps r {number}")
            self.no_line(f"begin p a:{number},b:1,x:1")
        self.assertEqual(told(self.desk, "choose 123456789"), ("BadChoice",))
        self.assertEqual(self.desk.would("choose 0"), "ok")

    def test_ways(self):
        for way in ["0,", ",0", "0,,1", "0;1", "-,0", "--", "0,-", "()", "0.1", "0,01"]:
            self.no_line(f"height r {way} x")
            self.no_line(f"steps r {way}")
        for way in ["-", "2", "0,0", "999999999", "0,0,0,0"]:
            self.assertEqual(told(self.desk, f"steps r {way}"), ("BadWay",))

    def test_starts(self):
        for starts in ["b:1,a:1,x:1", "a:1,a:1,b:1,x:1", "a:1,b:1,x:1,", ",a:1", "a1", "a:", ":1", "a:1;b:1", "A:1", "a:1,,b:1", "a:1:1", "a=1", "-", "a:1 b:1", "a,b,x"]:
            self.no_line(f"begin p {starts}")
        self.assertEqual(told(self.desk, "begin p a:1"), ("BadStarts",))

    def test_the_order_of_errors(self):
        desk = self.desk
        self.assertEqual(told(desk, "program Q x"), ("NoLine",))
        self.assertEqual(told(desk, "program q "), ("BadText", 1))
        self.assertEqual(told(desk, "program q x"), ("BadText", 1))
        self.assertEqual(told(desk, "program q names a|main|add a|done|"), ("BadText", 3))
        self.assertEqual(told(desk, "program q names a|main|done"), ("BadText", 3))
        self.assertEqual(told(desk, "program q names a|main|done||"), ("BadText", 4))
        self.assertEqual(told(desk, "program q names a|main| |done|"), ("BadText", 3))
        self.assertEqual(told(desk, "program q  names a|main|done|"), ("BadText", 1))
        self.assertEqual(told(desk, "program q names a|main|add x 1|done|"), ("BadProgram", "main"))
        self.assertEqual(told(desk, "program q names a b c d e|main|done|"), ("BadProgram", "names"))
        self.assertEqual(told(desk, "height q 01 x"), ("NoLine",))
        self.assertEqual(told(desk, "height q 7 zz"), ("NoProgram", "q"))
        self.assertEqual(told(desk, "height r 7 zz"), ("BadWay",))
        self.assertEqual(told(desk, "height r 0 zz"), ("NoName", "zz"))
        self.assertEqual(told(desk, "begin q a:0"), ("NoProgram", "q"))
        self.assertEqual(told(desk, "covered y z x,b"), ("NoProgram", "y"))
        self.assertEqual(told(desk, "covered p z x,b"), ("NoProgram", "z"))
        self.assertEqual(told(Desk(), "choose 01"), ("NoLine",))
        self.assertEqual(told(Desk(), "choose 7"), ("NoRun",))

    def test_names_of_programs_may_be_words_of_lines(self):
        desk = desk_with(names=program_p(), undo=program_r(), program=program_r())
        self.assertEqual(desk.tell("names"), "names program undo")
        self.assertEqual(desk.tell("ways undo"), "0 1")
        self.assertEqual(desk.tell("drop program"), "ok")


class WouldTest(unittest.TestCase):
    def test_the_desk_stays_as_it_is(self):
        desk = desk_with(p=program_p())
        self.assertEqual(desk.would(line_of("q", program_r())), "ok")
        self.assertEqual((desk.tell("names"), desk.undoable()), ("p", 1))
        self.assertEqual(desk.would(line_of("p", program_r())), "ok")
        self.assertEqual(desk.tell("ways p"), "-")
        self.assertEqual(desk.would("drop p"), "ok")
        self.assertEqual(desk.tell("names"), "p")
        self.assertEqual(desk.would("begin p a:2,b:1,x:1"), "ok")
        self.assertEqual(desk.tell("look"), "-")
        self.assertEqual(desk.would("undo"), "ok")
        self.assertEqual((desk.tell("names"), desk.undoable()), ("p", 1))
        desk.tell("begin p a:2,b:1,x:1")
        self.assertEqual(desk.would("choose 1"), "ok")
        self.assertEqual((desk.tell("look"), desk.tell("numbers")), ("loop 2", "a:2,b:1,x:1"))
        self.assertEqual(desk.would("begin p a:9,b:1,x:1"), "ok")
        self.assertEqual((desk.tell("look"), desk.undoable()), ("loop 2", 2))
        self.assertEqual(caught(Desk().would, "undo"), ("NothingDone",))
        self.assertEqual(caught(Desk().would, "choose 0"), ("NoRun",))
        self.assertEqual(caught(desk.would, "choose 3"), ("BadChoice",))
        self.assertEqual(caught(desk.would, "program p x"), ("BadText", 1))


class ModelTest(unittest.TestCase):
    """Many lines, told to the desk and to the second telling of it."""

    def test_many_desks(self):
        rng = random.Random(191)
        pool = [program_p(), program_r(), Program(("a", "b", "x"), {}, (orders((add("x", term(1, b=1)),), (loop("b", add("a")),)), become("b", term(2, a=1)),
                                                                       loop("x", either((add("a"),), (lift("b", 3, a=1),)))))]
        pool += [program for program in some_programs(192, 60) if program.names == ("a", "b", "x")][:6]
        heard = {}
        for _ in range(60):
            desk, model = Desk(), ModelDesk()
            for _ in range(60):
                line = self.line(rng, pool)
                expected = told(model, line)
                self.assertEqual(told_would(desk, line), expected, line)
                self.assertEqual(told(desk, line), expected, line)
                self.assertEqual(desk.undoable(), model.undoable())
                key = (line.split(" ")[0], expected[0] if type(expected) is tuple else "fine")
                heard[key] = heard.get(key, 0) + 1
        for word in ["program", "drop", "names", "ways", "height", "top", "steps", "covered", "begin", "choose", "look", "numbers", "undo"]:
            self.assertGreater(heard[word, "fine"], 20, heard)
        for key in [("drop", "NoProgram"), ("choose", "NoRun"), ("choose", "BadChoice"), ("choose", "Over"), ("numbers", "NoRun"), ("undo", "NothingDone"),
                    ("height", "BadWay"), ("program", "BadText"), ("begin", "BadStarts"), ("covered", "BadNames"), ("top", "NoName")]:
            self.assertGreater(heard[key], 3, key)

    def line(self, rng, pool):
        word = rng.choice(["program", "program", "drop", "names", "ways", "height", "top", "steps", "covered", "begin", "begin", "choose", "choose", "choose",
                           "look", "numbers", "undo"])
        name, name_too = rng.choice("ppppqqr"), rng.choice("ppppqqr")
        one, way = rng.choice("aabbxxxy"), rng.choice(["-", "-", "0", "1", "0,0"])
        if word == "program":
            line = line_of(name, rng.choice(pool))
            return line[:-1] if rng.random() < 0.15 else line
        if word == "begin":
            return f"begin {name} " + ",".join(f"{each}:{rng.randint(0, 5) or 1}" for each in ("ab", "abx", "abx", "abx")[rng.randrange(4)])
        return {"drop": f"drop {name}", "ways": f"ways {name}", "height": f"height {name} {way} {one}", "top": f"top {name} {one}",
                "steps": f"steps {name} {way}", "covered": f"covered {name} {name_too} " + rng.choice(["a", "b", "x", "a,b", "b,x", "x,b"]),
                "choose": f"choose {rng.randint(0, 3)}"}.get(word, word)

    def test_two_desks_stand_apart(self):
        one, other = desk_with(p=program_p()), Desk()
        self.assertEqual((one.tell("names"), other.tell("names")), ("p", "-"))
        self.assertEqual(caught(other.tell, "undo"), ("NothingDone",))

    def test_long_runs_can_be_taken_back(self):
        program = Program(("a", "x"), {}, (loop("a", either((add("x"),), ())),))
        desk = desk_with(p=program)
        desk.tell("begin p a:2000,x:1")
        desk.tell("choose 2000")
        for _ in range(2000):
            desk.tell("choose 0")
        self.assertEqual(desk.tell("numbers"), "a:2000,x:2001")
        self.assertEqual(desk.undoable(), 2003)
        for _ in range(2000):
            desk.tell("undo")
        self.assertEqual(desk.tell("numbers"), "a:2000,x:1")
        self.assertEqual(played(program, {"a": 2000, "x": 1}, [0])["x"], 1)

    def test_errors_have_the_words_of_the_document(self):
        self.assertRaises(NoLine, Desk().tell, None)
        self.assertRaises(NoRun, Desk().tell, "numbers")


def told_would(desk, line):
    try:
        return desk.would(line)
    except HighError as error:
        return (type(error).__name__, *vars(error).values())


if __name__ == "__main__":
    unittest.main()
