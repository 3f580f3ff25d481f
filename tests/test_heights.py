"""Heights, tops and degrees (8.3 to 8.5, 13.2)."""

import copy
import random
import unittest

from helper import (add, become, call, caught, either, lift, loop, loopy_programs, naive_heights, naive_lean, naive_value, odd_things,
                    orders, product, program_p, program_r, some_programs, term)
from howhigh.errors import TooLong
from howhigh.flats import flat
from howhigh.fullruns import full_run
from howhigh.heights import degree, height, heights, top, tops
from howhigh.hulls import below
from howhigh.programs import Program
from howhigh.ways import straight, ways

A, B, X, Y = product(a=1), product(b=1), product(x=1), product(y=1)


def made(*main, bodies=None):
    return Program(("a", "b", "x", "y"), bodies or {}, main)


def heights_of(*main, way=(), bodies=None):
    return heights(made(*main, bodies=bodies), way)


def told_heights(program, way, most=1500):
    steps = straight(program, way)
    return naive_heights(below, program.names, steps, [flat(program, step) if step[0] == "loop" else None for step in steps], most)


class HeightTest(unittest.TestCase):
    def test_the_example_of_the_document(self):
        self.assertEqual(height(program_p(), (), "x"), ((("a", 1), ("b", 1)), (("a", 2),), (("x", 1),)))

    def test_a_way_without_steps(self):
        self.assertEqual(heights_of(), {"a": (A,), "b": (B,), "x": (X,), "y": (Y,)})
        self.assertEqual(heights_of(either((), (add("x"),)), way=(0,))["x"], (X,))

    def test_add_and_lift_rows(self):
        self.assertEqual(heights_of(add("x", term(3, a=1, b=1), term(1, y=2))), {"a": (A,), "b": (B,), "x": (product(a=1, b=1), X, product(y=2)),
                                                                              "y": (Y,)})
        self.assertEqual(heights_of(lift("x", 5, x=2))["x"], (product(x=2),))
        self.assertEqual(heights_of(add("x", term(1, x=1)))["x"], (X,))
        self.assertEqual(heights_of(add("x", term(1, a=1)), add("a", term(2, x=3)))["a"], naive_lean(below, [A, product(x=3), product(a=3)]))

    def test_constants(self):
        self.assertEqual(heights_of(add("x"))["x"], (X,))
        self.assertEqual(heights_of(lift("x", 9))["x"], (X,))
        self.assertEqual(heights_of(become("x", term(5), term(1, a=1)))["x"], (A,))

    def test_set_rows_take_back_what_was_there(self):
        self.assertEqual(heights_of(become("x", term(2, a=1)))["x"], (A,))
        self.assertEqual(heights_of(become("x", term(1, a=1), term(1, x=2)))["x"], (A, product(x=2)))
        self.assertEqual(heights_of(become("x", term(1, b=1)), become("b", term(1, x=1), term(1, y=1)))["b"], (B, Y))
        doubled = loop("a", add("x", term(1, x=1)))
        self.assertIsNone(heights_of(doubled)["x"])
        self.assertEqual(heights_of(doubled, become("x", term(1, a=2)))["x"], (product(a=2),))
        self.assertEqual(heights_of(doubled, become("x", term(1, a=1)), add("y", term(1, x=1)))["y"], (A, Y))
        self.assertIsNone(heights_of(doubled, become("y", term(1, b=1), term(1, x=1)), become("x", term(1, a=1)))["y"])
        self.assertIsNone(heights_of(doubled, become("x", term(1, x=1)))["x"])

    def test_loops(self):
        self.assertEqual(heights_of(loop("a", add("x")))["x"], (A, X))
        self.assertEqual(heights_of(loop("a", lift("x", 3, b=2)))["x"], (product(b=2), X))
        self.assertEqual(heights_of(loop("a", loop("b", add("x", term(1, y=1)))))["x"], (product(a=1, b=1, y=1), X))
        self.assertEqual(heights_of(loop("b", loop("b", add("x", term(1, b=1)))))["x"], (product(b=3), X))
        self.assertEqual(heights_of(loop("a", loop("b", lift("x", 1, y=1))))["x"], (X, Y))
        self.assertEqual(heights_of(loop("a", add("a")))["a"], (A,))
        self.assertEqual(heights_of(loop("a", add("x"), add("y", term(1, x=1))))["y"], (product(a=1, x=1), product(a=2), Y))
        self.assertEqual(heights_of(loop("a", add("x")), loop("x", add("y")))["y"], (A, X, Y))
        self.assertEqual(heights_of(loop("a"))["a"], (A,))

    def test_either_and_orders(self):
        picks = loop("a", either((add("x"),), (add("y", term(1, x=1)),)))
        self.assertEqual(heights_of(picks)["y"], (product(a=1, x=1), product(a=2), Y))
        one, other = (add("x", term(1, b=1)),), (add("b", term(1, a=1)),)
        program = made(orders(one, other))
        self.assertEqual(height(program, (0,), "x"), (B, X))
        self.assertEqual(height(program, (1,), "x"), (A, B, X))
        program = made(either(one, other), add("y", term(1, x=1)))
        self.assertEqual([height(program, way, "y") for way in ways(program)], [(B, X, Y), (X, Y)])

    def test_calls(self):
        bodies = {"do": (add("x", term(1, a=1)), call("it")), "it": (loop("x", add("y")),)}
        self.assertEqual(heights_of(call("do"), bodies=bodies)["y"], (A, X, Y))
        self.assertEqual(heights_of(loop("b", call("do")), bodies=bodies)["y"], (product(a=1, b=2), product(b=1, x=1), Y))
        self.assertEqual(heights_of(call("it"), call("it"), bodies=bodies)["y"], (X, Y))

    def test_rings(self):
        for rows in [[add("x", term(1, x=1))], [lift("x", 2, x=1)], [lift("x", 1, x=2)], [lift("x", 1, a=1, x=1)],
                     [add("x", term(1, y=1)), lift("y", 1, x=1)], [lift("x", 1, y=1), lift("y", 2, x=1)],
                     [lift("x", 1, y=1), lift("y", 1, b=1), lift("b", 1, x=1), lift("b", 1, x=1, y=1)],
                     [loop("x", add("x"))]]:
            found = heights_of(loop("a", *rows))
            self.assertIsNone(found["x"], rows)
            self.assertEqual(found["a"], (A,))
        for rows in [[lift("x", 1, x=1)], [lift("x", 1, y=1), lift("y", 1, x=1)]]:
            self.assertEqual(heights_of(loop("a", *rows))["x"], (X,) if len(rows) == 1 else (X, Y))

    def test_what_is_handed_on_from_a_ring(self):
        found = heights_of(loop("b", add("x", term(1, x=1)), lift("y", 1, x=1), add("a")))
        self.assertEqual(found, {"a": (A, B), "b": (B,), "x": None, "y": None})
        self.assertEqual(heights_of(loop("b", add("x", term(1, x=1))), add("y", term(1, a=1, x=1)))["y"], None)

    def test_a_loop_whose_name_is_above(self):
        doubled = loop("a", add("x", term(1, x=1)))
        found = heights_of(doubled, loop("x", add("y"), lift("b", 3, a=1), lift("a", 1, y=1)))
        self.assertEqual(found, {"a": None, "b": None, "x": None, "y": None})
        found = heights_of(doubled, loop("x", add("y"), lift("b", 3, a=1)))
        self.assertEqual(found, {"a": (A,), "b": (A, B), "x": None, "y": None})
        found = heights_of(doubled, loop("x"), loop("y", lift("b", 1, x=1), add("a")))
        self.assertEqual(found, {"a": (A, Y), "b": None, "x": None, "y": (Y,)})

    def test_names_that_no_row_changes(self):
        for program in some_programs(81, 60):
            for way in ways(program)[:2]:
                rows = [row for step in straight(program, way)
                        for row in (flat(program, step) if step[0] == "loop" else [step])]
                for name in program.names:
                    if all(row[1] != name for row in rows):
                        self.assertEqual(height(program, way, name), (((name, 1),),))

    def test_against_all_branches(self):
        seen, nothing = 0, 0
        for program in some_programs(82, 300, 4) + loopy_programs(182, 500):
            for way in ways(program)[:3]:
                told = told_heights(program, way, 500)
                if told is not None:
                    found = heights(program, way)
                    self.assertEqual(found, told, (program.main, program.bodies, way))
                    self.assertEqual({name: height(program, way, name) for name in program.names}, found)
                    seen += any(step[0] == "loop" for step in straight(program, way))
                    nothing += None in found.values()
        self.assertGreater(seen, 300)
        self.assertGreater(nothing, 150)

    def test_errors(self):
        p, r = program_p(), program_r()
        self.assertIsNone(caught(height, r, (0,), "a"))
        for odd in odd_things() + [(2,), (True,), [0], (0, 0), (-1,)]:
            if type(odd) is tuple and len(odd) == 1 and type(odd[0]) is int and odd[0] == 1:
                continue
            self.assertEqual(caught(height, r, odd, "a"), ("BadWay",))
            self.assertEqual(caught(height, r, odd, odd), ("BadWay",))
            self.assertEqual(caught(heights, r, odd), ("BadWay",))
            self.assertEqual(caught(degree, r, odd, "a"), ("BadWay",))
            self.assertEqual(caught(degree, r, odd, None), ("BadWay",))
            if odd not in ("a", "b") or not isinstance(odd, str):
                for action in [lambda: height(p, (), odd), lambda: degree(p, (), odd), lambda: top(p, odd)]:
                    self.assertEqual(caught(action)[0], "NoName")
        for odd in [["a"], "y", "#", ""]:
            self.assertEqual(caught(height, p, (), odd), ("NoName", odd))
            self.assertEqual(caught(top, p, odd), ("NoName", odd))
            self.assertEqual(caught(degree, p, (), odd), ("NoName", odd))

    def test_equal_programs_have_equal_answers_and_nothing_is_changed(self):
        for program in some_programs(83, 40):
            again = Program(copy.deepcopy(program.names), copy.deepcopy(program.bodies), copy.deepcopy(program.main))
            for way in ways(program)[:2]:
                first = heights(program, way)
                self.assertEqual(heights(again, tuple(list(way))), first)
                first.clear()
                self.assertEqual(heights(program, way), heights(again, way))
            self.assertEqual(tops(program), tops(again))
            self.assertEqual(program, again)


class RunsTest(unittest.TestCase):
    """The facts of 8.4, held against runs."""

    def test_full_runs_reach_their_heights(self):
        rng = random.Random(84)
        seen = 0
        for program in some_programs(85, 200) + loopy_programs(185, 200):
            for way in ways(program)[:2]:
                found = heights(program, way)
                for least in (4, 8, 16):
                    starts = {name: rng.randint(least, 2 * least) for name in program.names}
                    try:
                        numbers, _ = full_run(program, way, starts)
                    except TooLong:
                        break
                    for name, products in found.items():
                        for one in products or ():
                            # A share of 10 ** 6 is far more than these small programs need.
                            self.assertGreaterEqual(numbers[name] * 10 ** 6, naive_value(one, starts), (program.main, way, name, one))
                    seen += 1
        self.assertGreater(seen, 500)

    def test_full_runs_grow_by_the_degree(self):
        program = made(loop("a", add("x", term(2, b=1)), add("b")), loop("x", add("y", term(1, a=1))))
        self.assertEqual([degree(program, (), name) for name in "abxy"], [1, 1, 2, 3])
        for name, power in zip("abxy", [1, 1, 2, 3]):
            shares = [full_run(program, (), {other: t for other in "abxy"})[0][name] * 1000 // t ** power for t in (10, 20, 40)]
            self.assertTrue(all(500 < share < 5000 for share in shares), (name, shares))


class TopTest(unittest.TestCase):
    def test_the_example_program(self):
        self.assertEqual(top(program_p(), "x"), height(program_p(), (), "x"))
        self.assertEqual(top(program_r(), "x"), (A, X))
        self.assertEqual(top(program_r(), "b"), (A, B))
        self.assertEqual(top(program_r(), "a"), (A,))

    def test_none_if_one_way_has_none(self):
        program = made(either((loop("a", add("x", term(1, x=1))),), (add("x", term(1, b=1)),)))
        self.assertIsNone(top(program, "x"))
        self.assertEqual(top(program, "y"), (Y,))

    def test_the_products_of_all_ways_are_lean_together(self):
        program = made(either((add("x", term(1, a=2)),), (add("x", term(1, a=1, b=1)),), (add("x", term(1, b=2)),)))
        self.assertEqual(top(program, "x"), (product(a=2), product(b=2), X))

    def test_against_the_words(self):
        for program in some_programs(88, 150):
            for name in program.names:
                every = [height(program, way, name) for way in ways(program)]
                told = None if None in every else naive_lean(below, [one for products in every for one in products])
                self.assertEqual(top(program, name), told)


class TopsTest(unittest.TestCase):
    def test_the_example_program(self):
        self.assertEqual(tops(program_r()), [{"a": (A,), "b": (B,), "x": (A, X)}, {"a": (A,), "b": (A, B), "x": (X,)}])
        self.assertEqual(tops(program_p()), [heights(program_p(), ())])

    def test_of_equal_ones_the_first_stays(self):
        program = made(either((add("x", term(1, a=1)),), (add("x", term(7, a=1)),), (lift("x", 1, a=1),)))
        self.assertEqual(tops(program), [heights(program, (0,))])

    def test_those_under_others_go(self):
        small, great = (add("x", term(1, a=1, b=1)),), (add("x", term(1, a=2), term(1, b=2)),)
        self.assertEqual(tops(made(either(small, great))), [heights_of(*great)])
        self.assertEqual(tops(made(either(great, small))), [heights_of(*great)])
        none = (loop("a", add("x", term(1, x=1))),)
        self.assertEqual(tops(made(either(great, none))), [heights_of(*none)])
        self.assertEqual(tops(made(either(none, great + (add("y", term(1, a=1)),)))),
                         [heights_of(*none), heights_of(*great, add("y", term(1, a=1)))])
        self.assertEqual(tops(made(either(none, (loop("a", lift("x", 2, x=1)),)))), [heights_of(*none)])

    def test_against_the_words(self):
        def under(one, other):
            return all(other[name] is None or one[name] is not None and all(below(q, other[name]) for q in one[name]) for name in one)

        many = 0
        for program in some_programs(89, 200):
            every = [heights(program, way) for way in ways(program)]
            told = [one for k, one in enumerate(every)
                    if one not in every[:k] and not any(under(one, other) and one != other for other in every)]
            found = tops(program)
            self.assertEqual(found, told)
            many += len(found) > 1
            found[0].clear()
            self.assertEqual(tops(program), told)
        self.assertGreater(many, 10)


class DegreeTest(unittest.TestCase):
    def test_the_greatest_degree_of_the_products(self):
        self.assertEqual(degree(program_p(), (), "x"), 2)
        self.assertEqual(degree(program_p(), (), "a"), 1)
        program = made(add("x", term(1, a=1, b=2), term(1, b=1, y=1)))
        self.assertEqual(degree(program, (), "x"), 3)

    def test_constants_and_none(self):
        self.assertIsNone(degree(made(loop("a", add("x", term(1, x=1)))), (), "x"))
        self.assertEqual(degree(made(become("x", term(1), term(1, a=1))), (), "x"), 1)

    def test_it_is_that_of_the_height(self):
        for program in some_programs(90, 60):
            for way in ways(program)[:2]:
                for name, products in heights(program, way).items():
                    told = None if products is None else max(sum(power for _, power in one) for one in products)
                    self.assertEqual(degree(program, way, name), told)


if __name__ == "__main__":
    unittest.main()
