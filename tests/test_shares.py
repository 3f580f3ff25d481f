"""Shares (10.1, 10.2)."""

import copy
import random
import unittest

from helper import (NaiveFullRun, add, become, call, caught, either, lift, loop, loopy_programs, naive_value, odd_things, orders, product,
                    program_p, program_r, some_programs, term, turning_programs)
from howhigh.errors import TooLong
from howhigh.flats import doubling, flat
from howhigh.fullruns import full_run
from howhigh.heights import heights
from howhigh.programs import Program
from howhigh.shares import share
from howhigh.ways import block_ways, straight, ways

A, B, X, Y = product(a=1), product(b=1), product(x=1), product(y=1)


def made(*main, bodies=None):
    return Program(("a", "b", "x", "y"), bodies or {}, main)


def shares_of(program, way):
    """A dict from the pairs (name, product) of the heights by the way to the told shares."""
    return {(name, one): share(program, way, name, one)
            for name, products in heights(program, way).items() for one in products or ()}


def held(program, way, told, starts, most):
    """Whether the full run from the starts holds all the told shares that say something of them; None if it is too long."""
    try:
        numbers = NaiveFullRun(program, way, starts, most).numbers
    except TooLong:
        return None
    return all(many * numbers[name] >= naive_value(one, starts) for (name, one), (many, least) in told.items()
               if min(starts.values()) >= least)


class ShareTest(unittest.TestCase):
    def is_held(self, program, way, told, most=20000):
        """Hold the told shares against full runs from many starts; how many there were."""
        rng = random.Random(repr(program.main))
        seen = 0
        for least in sorted({least for _, least in told.values()}):
            every = [{name: least for name in program.names}]
            every += [{**every[0], name: least + more} for name in program.names for more in (1, 2, 40)]
            every += [{name: least * times + rng.randint(0, 9) for name in program.names} for times in (1, 2, 5, 30)]
            for starts in every:
                verdict = held(program, way, told, starts, most)
                self.assertIn(verdict, (True, None), (program.main, program.bodies, way, starts, told))
                seen += verdict is True
        return seen

    def test_the_kinds_of_its_parts(self):
        for program in [program_p(), program_r(), *some_programs(121, 40, 4), *turning_programs(122, 40)]:
            for way in ways(program)[:2]:
                for pair in shares_of(program, way).values():
                    self.assertIs(type(pair), tuple)
                    self.assertEqual([type(number) for number in pair], [int, int])
                    self.assertGreaterEqual(min(pair), 1)

    def test_the_example_program(self):
        told = shares_of(program_p(), ())
        self.assertEqual(len(told), 6)
        self.assertGreater(self.is_held(program_p(), (), told), 10)
        many, least = share(program_p(), (), "x", product(a=2))
        self.assertGreaterEqual(least, 2)

    def test_rows_and_set_rows(self):
        program = made(add("x", term(2, a=1, b=1)), become("b", term(1), term(3, x=2)), lift("y", 4, b=2), become("x", term(1, a=1)))
        self.assertGreater(self.is_held(program, (), shares_of(program, ())), 10)

    def test_names_that_nothing_raises_and_names_lifted_or_set_by_constants(self):
        self.assertEqual(share(program_p(), (), "a", A), (1, 1))
        program = made(lift("x", 9), become("y", term(9), term(1, a=1)), add("b"))
        told = shares_of(program, ())
        self.assertEqual(sorted(told), [("a", A), ("b", B), ("x", X), ("y", A)])
        self.assertGreater(self.is_held(program, (), told), 4)

    def test_a_loop_that_never_comes_to_a_block_with_less_rounds(self):
        program = made(loop("a", either((add("x"),), (), (add("y", term(1, b=1)),))))
        told = shares_of(program, ())
        self.assertGreaterEqual(told["y", product(a=1, b=1)][1], 3)
        self.assertGreater(self.is_held(program, (), told), 10)

    def test_what_takes_several_rounds(self):
        program = made(loop("a", lift("y", 1, x=1), lift("x", 1, b=1)))
        self.assertGreaterEqual(share(program, (), "y", B)[1], 2)
        program = made(loop("a", either((add("y", term(1, x=1)),), (add("x", term(1, b=1)),), (add("b"),))))
        told = shares_of(program, ())
        self.assertIn(("y", product(a=3)), told)
        self.assertGreater(self.is_held(program, (), told), 10)

    def test_what_takes_several_rounds_of_an_inner_loop(self):
        program = made(loop("a", loop("a", lift("x", 1, y=1), lift("y", 1, b=1))))
        self.assertGreaterEqual(share(program, (), "x", B)[1], 2)
        self.assertGreater(self.is_held(program, (), shares_of(program, ())), 10)

    def test_a_lift_that_is_surely_done_in_a_later_round_only(self):
        row = lift("x", 1, b=1)
        program = made(loop("a", either((loop("y", either((), (row,))),), (row,))))
        self.assertGreaterEqual(share(program, (), "x", B)[1], 2)
        self.assertGreater(self.is_held(program, (), shares_of(program, ())), 10)
        program = made(loop("a", either((), (row,)), loop("y", either((), (), (row,)))))
        self.assertGreaterEqual(share(program, (), "x", B)[1], 2)
        self.assertGreater(self.is_held(program, (), shares_of(program, ())), 10)

        program = made(loop("y", either((row, lift("b", 1, a=1)), (loop("y", either((), (), (row,))),))))
        self.assertGreaterEqual(share(program, (), "x", A)[1], 3)
        self.assertGreater(self.is_held(program, (), shares_of(program, ())), 10)

    def test_the_order_in_a_round(self):
        for rows in ([add("b"), add("x", term(1, b=1))], [add("x", term(1, b=1)), add("b")]):
            program = made(loop("a", *rows), loop("a", either(tuple(rows[:1]), tuple(rows[1:]))))
            self.assertGreater(self.is_held(program, (), shares_of(program, ())), 10)

    def test_inner_loops_with_either(self):
        inner = loop("b", either((add("x"),), (add("y", term(1, x=1)),)))
        for program in [made(loop("a", inner)), made(loop("a", inner, add("b"))), made(loop("a", either((inner,), (add("b", term(1, a=1)),)))),
                        made(loop("a", loop("b", either((lift("x", 1, y=2),), (), ())), add("y"))), made(inner, inner)]:
            self.assertGreater(self.is_held(program, (), shares_of(program, ()), 60000), 4)

    def test_orders_and_calls(self):
        bodies = {"do": (add("x", term(1, b=1)), call("it")), "it": (either((add("b"),), (add("y", term(1, x=1)),)),)}
        program = made(orders((call("do"),), (loop("a", call("do")),)), bodies=bodies)
        for way in ways(program):
            self.assertGreater(self.is_held(program, way, shares_of(program, way)), 10)

    def test_a_row_in_an_inner_loop_beside_one_with_the_same_flat_row(self):
        program = made(loop("a", loop("b", either((add("x"),), (), ())), add("x", term(1, b=1))))
        self.assertGreater(self.is_held(program, (), shares_of(program, ())), 10)

    def test_many_programs(self):
        seen = 0
        for program in some_programs(123, 150, 4) + loopy_programs(124, 100) + turning_programs(125, 120):
            for way in ways(program)[:2]:
                seen += self.is_held(program, way, shares_of(program, way), 4000)
        self.assertGreater(seen, 1500)

    def test_full_runs_longer_than_full_run_plays(self):
        program = made(loop("a", loop("b", add("x", term(1, a=1)), either((add("y"),), (add("y", term(1, x=1)),)))))
        told = shares_of(program, ())
        starts = {"a": 150, "b": 140, "x": 20, "y": 20}
        self.assertEqual(caught(full_run, program, (), starts), ("TooLong",))
        self.assertTrue(held(program, (), told, starts, 10 ** 5))
        self.assertTrue(held(program, (), told, {**starts, "a": 30, "b": 1000}, 10 ** 5))

    def test_great_powers(self):
        program = made(loop("a", add("x", term(1, b=1))), *[lift("x", 1, x=3) for _ in range(8)])
        many, least = share(program, (), "x", product(a=3 ** 8, b=3 ** 8))
        self.assertEqual((many, least), (1, 1))
        program = made(loop("a", add("x", term(1, b=1)), add("b")), *[lift("x", 1, x=3) for _ in range(8)])
        many, least = share(program, (), "x", product(a=2 * 3 ** 8))
        self.assertTrue(held(program, (), {("x", product(a=2 * 3 ** 8)): (many, least)}, {"a": 2, "b": 2, "x": 2, "y": 2}, 100) in (True, None))

    def test_errors_in_their_order(self):
        p, r = program_p(), program_r()
        none = made(loop("a", add("x", term(1, x=1))))
        for odd in odd_things():
            if not (type(odd) is tuple and len(odd) == 1 and type(odd[0]) is int and odd[0] == 1):
                self.assertEqual(caught(share, r, odd, "x", X), ("BadWay",))
                self.assertEqual(caught(share, r, odd, odd, odd), ("BadWay",))
            if not (type(odd) is str and odd in ("a", "b")):
                self.assertEqual(caught(share, p, (), odd, X)[0], "NoName")
                self.assertEqual(caught(share, p, (), odd, odd)[0], "NoName")
            self.assertEqual(caught(share, p, (), "x", odd), ("NoBranch",))
            self.assertEqual(caught(share, none, (), "x", odd), ("NoBranch",))
        for wrong in [A, B, product(a=1, b=2), (("a", True), ("b", 1)), (("b", 1), ("a", 1)), [("x", 1)], (["x", 1],), (("x", 0),)]:
            self.assertEqual(caught(share, p, (), "x", wrong), ("NoBranch",), wrong)
        for one in [X, A, (), product(x=2)]:
            self.assertEqual(caught(share, none, (), "x", one), ("NoBranch",))
        self.assertEqual(caught(share, p, (), "y", X), ("NoName", "y"))

    def test_nothing_is_changed_and_equal_programs_have_equal_answers(self):
        for program in turning_programs(126, 40):
            again = Program(copy.deepcopy(program.names), copy.deepcopy(program.bodies), copy.deepcopy(program.main))
            for way in ways(program)[:2]:
                self.assertEqual(shares_of(program, way), shares_of(again, way))
            self.assertEqual(program, again)


class DoublingTest(unittest.TestCase):
    """The fact of 10.2, held against full runs."""

    def test_numbers_that_double(self):
        seen = 0
        for program in loopy_programs(127, 600):
            for way in ways(program)[:1]:
                steps = straight(program, way)
                if len(steps) != 1 or steps[0][0] != "loop" or any(inner[0] == "loop" for inner in steps[0][2]):
                    continue
                rows = flat(program, steps[0])
                wild = [name for part in doubling(program.names, rows) for name in part]
                ways_there = len(block_ways(steps[0][2]))
                rounds = 2 * len(program.names) * ways_there
                for name in wild:
                    if steps[0][1] in wild:
                        continue
                    starts = {other: max(2, ways_there) for other in program.names}
                    ends = []
                    for times in range(3):
                        starts[steps[0][1]] = max(2, ways_there) + times * rounds
                        try:
                            ends.append(NaiveFullRun(program, way, starts, 10 ** 4).numbers[name])
                        except TooLong:
                            break
                    for less, more in zip(ends, ends[1:]):
                        self.assertGreaterEqual(more, 2 * less)
                        seen += 1
        self.assertGreater(seen, 50)


if __name__ == "__main__":
    unittest.main()
