"""The height of the steps (12.1)."""

import random
import unittest

from helper import (NaiveFullRun, add, become, call, caught, either, lift, loop, loopy_programs, naive_value, odd_things, orders, product,
                    program_p, program_r, some_programs, term, turning_programs, WayRun)
from howhigh.errors import BadProgram, TooLong
from howhigh.fullruns import full_run
from howhigh.heights import height
from howhigh.hulls import lean
from howhigh.programs import Program
from howhigh.runs import Run, played
from howhigh.steps import steps_height
from howhigh.ways import ways

A, B, X, Y = product(a=1), product(b=1), product(x=1), product(y=1)


def made(*main, bodies=None):
    return Program(("a", "b", "x", "y"), bodies or {}, main)


def counted(block, name):
    """The block with a row that counts as 12.1 tells, calls left as they stand."""
    out = []
    count = ("add", name, ((1, ()),))
    for statement in block:
        if statement[0] in ("add", "lift", "set"):
            out += [statement, count]
        elif statement[0] == "loop":
            out.append(("loop", statement[1], (count,) + counted(statement[2], name)))
        elif statement[0] in ("either", "orders"):
            out.append((statement[0], tuple(counted(inner, name) for inner in statement[1])))
        else:
            out.append(statement)
    return tuple(out)


def told_steps(program, way):
    """The height of a further name in the program that counts; False if this is none by 2.2."""
    further = "mm"
    try:
        more = Program(tuple(sorted((*program.names, further))), {word: counted(block, further) for word, block in program.bodies.items()},
                       counted(program.main, further))
    except BadProgram:
        return False
    found = height(more, way, further)
    return found and lean([() if one == ((further, 1),) else one for one in found])


class StepsHeightTest(unittest.TestCase):
    def test_the_example_programs(self):
        self.assertEqual(steps_height(program_p(), ()), (A,))
        self.assertEqual([steps_height(program_r(), way) for way in ways(program_r())], [((),), ((),)])

    def test_no_rows(self):
        self.assertEqual(steps_height(made(), ()), ((),))
        self.assertEqual(steps_height(made(either((), ())), (1,)), ((),))
        self.assertEqual(steps_height(made(add("x", term(9, a=3))), ()), ((),))

    def test_loops_with_empty_blocks(self):
        self.assertEqual(steps_height(made(loop("a")), ()), (A,))
        self.assertEqual(steps_height(made(loop("a", loop("b"))), ()), (product(a=1, b=1),))
        self.assertEqual(steps_height(made(loop("a"), loop("b")), ()), (A, B))
        self.assertEqual(steps_height(made(loop("a", either((), (loop("b"),)))), ()), (product(a=1, b=1),))

    def test_numbers_that_rise_on_the_way(self):
        self.assertEqual(steps_height(made(add("x", term(1, a=1, b=1)), loop("x")), ()), (product(a=1, b=1), X))
        self.assertEqual(steps_height(made(become("x", term(1, a=2)), loop("x", loop("x", lift("y", 1, b=1)))), ()), (product(a=4),))
        self.assertEqual(steps_height(made(loop("a", loop("x"), add("x", term(1, b=1)))), ()), (product(a=1, x=1), product(a=2, b=1)))

    def test_a_loop_whose_name_is_above(self):
        double = loop("a", add("x", term(1, x=1)))
        self.assertEqual(steps_height(made(double), ()), (A,))
        self.assertIsNone(steps_height(made(double, loop("x")), ()))
        self.assertIsNone(steps_height(made(loop("a", add("x", term(1, x=1)), loop("x"))), ()))
        self.assertEqual(steps_height(made(double, become("x", term(1, b=1)), loop("x")), ()), (A, B))

    def test_each_way_has_its_own(self):
        program = made(either((loop("a"),), (add("x", term(1, b=2)), loop("x")), ()), orders((loop("y"),), (add("y", term(1, a=1)),)))
        self.assertEqual([steps_height(program, way) for way in ways(program)],
                         [(A, Y), (A, Y), (product(b=2), X, Y), (A, product(b=2), X, Y), (Y,), (A, Y)])

    def test_calls(self):
        program = made(call("do"), loop("b", call("do")), bodies={"do": (loop("a", either((add("x"),), (call("it"),))),), "it": (add("y"),)})
        self.assertEqual(steps_height(program, ()), (product(a=1, b=1),))

    def test_against_a_further_name(self):
        seen, nothing = 0, 0
        for program in some_programs(141, 500) + loopy_programs(142, 200) + turning_programs(143, 100):
            for way in ways(program)[:3]:
                told = told_steps(program, way)
                if told is not False:
                    self.assertEqual(steps_height(program, way), told, (program.main, program.bodies, way))
                    seen += told != ((),)
                    nothing += told is None
        self.assertGreater(seen, 150)
        self.assertGreater(nothing, 5)

    def test_programs_at_the_bounds(self):
        names = ("a", "b", "x", "y")
        rows = tuple(add(name) for name in ("x", "y") * 6)
        self.assertEqual(steps_height(Program(names, {}, rows), ()), ((),))
        self.assertEqual(steps_height(Program(names, {}, (loop("a", loop("b", *rows[:6]), *rows[6:]),)), ()), (product(a=1, b=1),))
        deep = ()
        for _ in range(8):
            deep = (either(deep, ()),)
        program = Program(names, {}, deep + tuple(loop("a") for _ in range(30)))
        self.assertEqual(steps_height(program, ways(program)[0]), (A,))

    def test_the_steps_of_runs(self):
        """The steps and 1 more are at most a factor times the height in each run, and at least a share of it in full runs."""
        rng = random.Random(144)
        seen = 0
        for program in some_programs(145, 150, 4) + loopy_programs(146, 100) + turning_programs(147, 60):
            for way in ways(program)[:2]:
                found = steps_height(program, way)
                if found is None:
                    continue
                for _ in range(4):
                    starts = {name: rng.randint(6, 9) for name in program.names}
                    greatest = max(naive_value(one, starts) for one in found)
                    try:
                        steps = WayRun(program, way, starts, rng).steps
                        full = NaiveFullRun(program, way, starts, 20000).steps
                    except TooLong:
                        continue
                    self.assertLessEqual(steps + 1, 10 ** 5 * greatest)
                    self.assertGreaterEqual(10 ** 5 * (full + 1), greatest)
                    seen += 1
        self.assertGreater(seen, 400)

    def test_the_steps_grow_by_the_height(self):
        program = made(loop("a", add("x", term(1, b=1)), loop("x", lift("y", 1, a=1))), loop("b"))
        self.assertEqual(steps_height(program, ()), (product(a=1, x=1), product(a=2, b=1)))
        shares = []
        for t in (3, 6, 12):
            starts = {"a": t, "b": t, "x": 1, "y": 1}
            run = Run(program, starts)
            while run.choice is not None:
                run.choose(run.choice[1])
            self.assertEqual(full_run(program, (), starts), (run.numbers, run.chosen()))
            self.assertEqual(played(program, starts, run.chosen()), run.numbers)
            shares.append(run.steps / t ** 3)
        self.assertTrue(all(0.9 < share < 2.5 for share in shares), shares)

    def test_errors(self):
        r = program_r()
        for odd in odd_things() + [(2,), (True,), [0], (0, 0), (-1,), ("0",)]:
            if not (type(odd) is tuple and len(odd) == 1 and type(odd[0]) is int and odd[0] == 1):
                self.assertEqual(caught(steps_height, r, odd), ("BadWay",))
        self.assertEqual(caught(steps_height, program_p(), (0,)), ("BadWay",))

    def test_equal_programs_have_equal_answers_and_nothing_is_changed(self):
        for program in some_programs(148, 60):
            again = Program(program.names, program.bodies, program.main)
            for way in ways(program)[:2]:
                self.assertEqual(steps_height(program, way), steps_height(again, tuple(list(way))))
            self.assertEqual(program, again)


if __name__ == "__main__":
    unittest.main()
