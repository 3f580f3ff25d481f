"""Which rows must go so that a number stays low (13.1)."""

import copy
import itertools
import random
import unittest

from helper import (add, become, call, caught, either, lift, loop, odd_things, orders, product, program_p, program_r, rowy_programs, term)
from howhigh.cuts import cuts
from howhigh.heights import top
from howhigh.hulls import below
from howhigh.programs import Program, rows, without_rows
from howhigh.ways import ways

A, B, X, Y = product(a=1), product(b=1), product(x=1), product(y=1)


def made(*main, bodies=None):
    return Program(("a", "b", "x", "y"), bodies or {}, main)


def is_low(program, name, products):
    found = top(program, name)
    return found is not None and all(below(one, products) for one in found)


def told_cuts(program, name, products):
    """All sets of add and lift rows taken out one after the other; the least ones that are enough."""
    numbers = [k for k, row in enumerate(rows(program)) if row[0] in ("add", "lift")]
    enough = [gone for many in range(len(numbers) + 1) for gone in itertools.combinations(numbers, many)
              if is_low(without_rows(program, gone), name, products)]
    return [gone for gone in enough if not any(set(other) < set(gone) for other in enough)]


class CutsTest(unittest.TestCase):
    def test_the_example_of_the_document(self):
        self.assertEqual(cuts(program_p(), "x", (product(a=1, b=1), X)), [(0,), (1,)])

    def test_nothing_need_go(self):
        self.assertEqual(cuts(program_p(), "x", (product(a=1, b=1), product(a=2), X)), [()])
        self.assertEqual(cuts(program_p(), "x", (product(a=99, b=99, x=99),)), [()])
        self.assertEqual(cuts(program_p(), "a", (A,)), [()])
        self.assertEqual(cuts(made(), "x", (X,)), [()])

    def test_there_is_none(self):
        self.assertEqual(cuts(program_p(), "x", (A, B)), [])
        self.assertEqual(cuts(made(), "x", ((),)), [])
        self.assertEqual(cuts(made(become("x", term(1, a=2)), add("x", term(1, b=1))), "x", (X, B)), [])
        self.assertEqual(cuts(made(become("x", term(1, a=1))), "x", (A,)), [()])

    def test_several_of_one_length_none_within_another_one(self):
        program = made(add("x", term(1, a=2)), add("x", term(1, b=2)), add("y", term(1, x=1)), add("y", term(1, a=2)))
        self.assertEqual(cuts(program, "y", (A, B, X, Y)), [(2, 3), (0, 1, 3)])
        self.assertEqual(cuts(program, "y", (product(a=2), X, Y, B)), [(1,), (2,)])
        self.assertEqual(cuts(program, "x", (X,)), [(0, 1)])

    def test_none_of_eight_rows_may_stay(self):
        program = made(*[add("x", term(1, a=2)) for _ in range(8)])
        self.assertEqual(cuts(program, "x", (X, A)), [tuple(range(8))])
        chain = made(loop("a", *[lift("x", 2, x=1)], *[lift("y", 1, b=1) for _ in range(7)]))
        self.assertEqual(cuts(chain, "x", (X,)), [(0,)])
        self.assertEqual(cuts(chain, "y", (Y,)), [tuple(range(1, 8))])

    def test_half_of_eight_rows(self):
        names = ("a", "b", "x", "y")
        program = Program(names, {}, tuple(either((add("x", term(1, a=2)),), (add("x", term(1, a=2)),)) for _ in range(4)))
        self.assertEqual(cuts(program, "x", (X,)), [tuple(range(8))])
        pairs = made(*[row for _ in range(2) for row in (become("b", term(1, y=1)), add("b", term(1, a=1)), add("x", term(1, b=2)), become("b", term(1, y=1)))])
        self.assertEqual(cuts(pairs, "x", (X, product(y=2))), [(1, 5), (1, 6), (2, 5), (2, 6)])

    def test_above_every_power(self):
        ring = made(loop("a", add("x", term(1, y=1)), lift("y", 1, x=1), add("b")))
        self.assertEqual(cuts(ring, "x", (product(x=9, y=9, a=9, b=9),)), [(0,), (1,)])
        self.assertEqual(cuts(ring, "x", (X,)), [(0,)])
        self.assertEqual(cuts(ring, "b", (B,)), [(2,)])

    def test_rows_of_bodies_that_are_called_twice(self):
        bodies = {"do": (add("x", term(1, a=1)),), "it": (add("x", term(1, b=3)), call("so")), "so": (add("x", term(1, a=1)),)}
        program = made(add("y"), call("do"), loop("b", call("do")), bodies=bodies)
        self.assertEqual(cuts(program, "x", (X, A)), [(1,)])
        self.assertEqual(cuts(made(call("do"), call("it"), bodies=bodies), "x", (X,)), [(0, 1, 2)])
        self.assertEqual(cuts(made(call("do"), call("it"), bodies=bodies), "x", (X, A)), [(1,)])

    def test_all_ways_count(self):
        program = made(either((add("x", term(1, a=2)),), (add("x", term(1, b=1)),)), orders((add("y", term(1, x=1)),), (lift("x", 1, a=1, b=1),)))
        self.assertEqual(cuts(program, "x", (X,)), [(0, 1, 3)])
        self.assertEqual(cuts(program, "y", (Y, X, product(a=2), B)), [(2,), (3,)])

    def test_set_rows_have_numbers_but_cannot_go(self):
        program = made(become("x", term(1, a=1)), add("x", term(1, b=1)), become("y", term(1, x=1)), lift("y", 1, b=2))
        self.assertEqual(cuts(program, "y", (A,)), [(1, 3)])

    def test_against_all_sets_of_rows(self):
        rng = random.Random(151)
        lengths = {}
        for program in rowy_programs(152, 170, 5) + rowy_programs(153, 6, 8):
            if len(ways(program)) > 6:
                continue
            for name in program.names[:2]:
                products = tuple(product(**{other: rng.randint(1, 2) for other in rng.sample(program.names, rng.randint(1, 2))})
                                 for _ in range(rng.randint(1, 3)))
                told = told_cuts(program, name, products)
                self.assertEqual(cuts(program, name, products), told, (program.main, program.bodies, name, products))
                lengths[len(told)] = lengths.get(len(told), 0) + 1
        self.assertGreater(min(lengths[0], lengths[1], lengths[2]), 15)
        self.assertGreater(max(lengths), 2)

    def test_products_in_any_order_and_twice(self):
        p = program_p()
        self.assertEqual(cuts(p, "x", (X, product(a=1, b=1), X)), [(0,), (1,)])
        self.assertEqual(cuts(p, "x", (X, (), A)), cuts(p, "x", (X, A)))

    def test_fewer_rows_never_make_a_height_greater(self):
        rng = random.Random(154)
        for program in rowy_programs(155, 60, 8):
            numbers = [k for k, row in enumerate(rows(program)) if row[0] != "set"]
            gone = tuple(sorted(rng.sample(numbers, rng.randint(1, len(numbers)))))
            for name in program.names:
                more, less = top(program, name), top(without_rows(program, gone), name)
                self.assertTrue(more is None or less is not None and all(below(one, more) for one in less))


class ErrorsTest(unittest.TestCase):
    def test_no_name(self):
        p = program_p()
        for odd in odd_things():
            if not (type(odd) is str and odd in ("a", "b")):
                error = caught(cuts, p, odd, (X,))
                self.assertEqual(error[0], "NoName")
                self.assertIs(error[1], odd)
                self.assertEqual(caught(cuts, p, odd, odd)[0], "NoName")
        self.assertEqual(caught(cuts, p, "y", ()), ("NoName", "y"))

    def test_bad_products(self):
        p = program_p()
        wrong = [(), [X], (X, [("a", 1)]), X, ((("y", 1),),), (product(a=100),), (product(a=1, b=100),), (X,) * 7, ((("a", 0),),), ((("a", True),),),
                 ((("a", -1),),), ((("b", 1), ("a", 1)),), ((("a", 1), ("a", 1)),), ((["a", 1],),), ((("a", 1, 1),),), ((("#", 1),),), (None,), ("x",),
                 {X: 1}, None, (X, None)]
        for odd in wrong + odd_things():
            if not (type(odd) is tuple and odd and all(one == () or one == X for one in odd)):
                self.assertEqual(caught(cuts, p, "x", odd), ("BadProducts",), odd)
            self.assertEqual(caught(cuts, p, "x", (X, odd) if odd not in ((), X) else None), ("BadProducts",), odd)
        self.assertIsNone(caught(cuts, p, "x", (product(a=99, b=99, x=99),)))
        self.assertIsNone(caught(cuts, p, "x", (X,) * 6))
        self.assertEqual(caught(cuts, p, "x", (X,) * 7), ("BadProducts",))
        self.assertEqual(caught(cuts, p, "x", (A, B, X, (), product(a=2), product(b=2), product(x=2))), ("BadProducts",))

    def test_too_many(self):
        eight = [add("x") for _ in range(8)]
        sets = [become("x", term(1, a=1)) for _ in range(3)]
        self.assertEqual(cuts(made(*eight, *sets), "x", (A,)), [()])
        self.assertEqual(caught(cuts, made(*eight, add("x")), "x", (X,)), ("TooMany", 8))
        self.assertEqual(caught(cuts, made(*eight[:4], bodies={"do": (lift("x", 1),) * 5}), "x", (X,)), ("TooMany", 8))
        self.assertIsNone(caught(cuts, made(*eight[:4], bodies={"do": (lift("x", 1),) * 4}), "x", (X,)))
        self.assertIsNone(caught(cuts, made(*eight[:4], *[call("do")] * 3, bodies={"do": (lift("x", 1),)}), "x", (X,)))
        self.assertEqual(caught(cuts, made(*eight, add("x")), "z", ()), ("NoName", "z"))
        self.assertEqual(caught(cuts, made(*eight, add("x")), "x", ()), ("BadProducts",))

    def test_each_answer_is_new_and_nothing_is_changed(self):
        for program in [program_p(), program_r(), *rowy_programs(156, 30, 6)]:
            again = Program(copy.deepcopy(program.names), copy.deepcopy(program.bodies), copy.deepcopy(program.main))
            first = cuts(program, "b", (B,))
            kept = list(first)
            first.clear()
            self.assertEqual(cuts(program, "b", (B,)), kept)
            self.assertEqual(cuts(again, "b", (B,)), kept)
            self.assertEqual(program, again)


if __name__ == "__main__":
    unittest.main()
