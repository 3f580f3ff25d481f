"""Branches (8.1 and 8.3)."""

import copy
import random
import unittest

from helper import (add, become, call, caught, depth_of, either, is_told_branch, lift, loop, loopy_programs, mutated, odd_things, orders,
                    product, program_p, program_r, replaced, some_programs, steps_and_flats, term, told_branch_product)
from howhigh.branches import branch, branch_product, is_branch
from howhigh.heights import heights
from howhigh.programs import Program
from howhigh.ways import ways

START = ("start",)
BEGIN = ("begin",)
A, B, X, Y = product(a=1), product(b=1), product(x=1), product(y=1)


def made(*main, bodies=None):
    return Program(("a", "b", "x", "y"), bodies or {}, main)


class IsBranchTest(unittest.TestCase):
    def judged(self, program, name, thing, way=()):
        found = is_branch(program, way, name, thing)
        self.assertIs(found, is_told_branch(*steps_and_flats(program, way), name, thing), thing)
        if found:
            steps, flats = steps_and_flats(program, way)
            self.assertEqual(branch_product(program, way, name, thing), told_branch_product(steps, flats, len(steps), name, thing))
        return found

    def test_a_way_without_steps(self):
        self.assertTrue(self.judged(made(), "a", START))
        self.assertEqual(branch_product(made(), (), "a", START), A)
        for thing in [("keep", START), ("start", 0), ["start"], "start", (), None, ("row", 0, ())]:
            self.assertFalse(self.judged(made(), "a", thing))

    def test_start_stands_at_the_beginning_only(self):
        self.assertFalse(self.judged(made(add("x")), "a", START))
        self.assertFalse(self.judged(made(loop("x")), "x", START))
        self.assertFalse(self.judged(made(add("x")), "a", ("keep", ("keep", START))))

    def test_keep(self):
        program = made(add("x"), loop("a", add("x")), become("y", term(1, a=1)))
        self.assertTrue(self.judged(program, "x", ("keep", ("keep", ("keep", START)))))
        self.assertFalse(self.judged(program, "y", ("keep", ("keep", ("keep", START)))))
        self.assertTrue(self.judged(program, "y", ("row", 0, (("keep", ("keep", START)),))))
        self.assertEqual(branch_product(program, (), "y", ("row", 0, (("keep", ("keep", START)),))), A)

    def test_rows(self):
        program = made(add("x", term(2), term(3, a=2, b=1)))
        self.assertTrue(self.judged(program, "x", ("row", 0, ())))
        self.assertEqual(branch_product(program, (), "x", ("row", 0, ())), ())
        self.assertTrue(self.judged(program, "x", ("row", 1, (START, START))))
        self.assertEqual(branch_product(program, (), "x", ("row", 1, (START, START))), product(a=2, b=1))
        for thing in [("row", 2, ()), ("row", -1, (START, START)), ("row", True, (START, START)), ("row", False, ()), ("row", 0, (START,)),
                      ("row", 1, (START,)), ("row", 1, [START, START]), ["row", 0, ()], ("row", 0, []), ("row", 0), ("row", 0, (), ())]:
            self.assertFalse(self.judged(program, "x", thing), thing)
        self.assertFalse(self.judged(program, "a", ("row", 0, ())))

    def test_a_lift_has_the_number_0_only(self):
        program = made(lift("x", 3, a=1))
        self.assertTrue(self.judged(program, "x", ("row", 0, (START,))))
        self.assertFalse(self.judged(program, "x", ("row", 1, (START,))))

    def test_loops(self):
        program = made(loop("b", add("x", term(1, a=1)), add("y"), lift("b", 1, x=1)))
        # 0 adds a to x, 1 adds 1 to y, 2 lifts b to x.
        tree = ("row", 0, (BEGIN,))
        self.assertTrue(self.judged(program, "x", ("loop", tree, {"a": START}, START)))
        self.assertEqual(branch_product(program, (), "x", ("loop", tree, {"a": START}, START)), product(a=1, b=1))
        for thing in [("loop", tree, {"a": START}, None), ("loop", tree, {}, START), ("loop", tree, {"a": START, "b": START}, START),
                      ("loop", tree, {"a": START, "#": START}, START), ("loop", tree, {"#": START}, START), ("loop", tree, (("a", START),), START),
                      ("loop", tree, {"a": START}, False), ("loop", tree, {"b": START}, START), ("loop", tree, {"a": START}),
                      ("loop", tree, {"a": START}, START, None), ("loop", ("row", 2, (BEGIN,)), {"x": START}, None)]:
            self.assertFalse(self.judged(program, "x", thing), thing)
        self.assertTrue(self.judged(program, "x", ("loop", BEGIN, {"x": START}, None)))
        self.assertFalse(self.judged(program, "x", ("loop", BEGIN, {"x": START}, START)))
        self.assertFalse(self.judged(program, "x", ("loop", BEGIN, {"x": START}, ())))
        self.assertTrue(self.judged(program, "y", ("loop", ("row", 1, ()), {}, START)))
        self.assertFalse(self.judged(program, "y", ("loop", ("row", 1, ()), {1: START}, START)))
        self.assertTrue(self.judged(program, "b", ("loop", ("row", 2, (tree,)), {"a": START}, START)))

    def test_rows_and_loops_stand_for_steps_of_their_kind(self):
        row, rounds = made(add("x", term(1, x=1))), made(loop("x", add("x", term(1, a=1))))
        for thing in [("loop", BEGIN, {"x": START}, None), ("loop", ("row", 0, (BEGIN,)), {"x": START}, None), ("loop", ("row", 0, ()), {}, None)]:
            self.assertFalse(self.judged(row, "x", thing))
        for thing in [("row", 0, (START,)), ("row", 0, ()), ("row", 0, (START, START)), ("row", 1, ())]:
            self.assertFalse(self.judged(rounds, "x", thing))
            self.assertFalse(self.judged(rounds, "a", thing))

    def test_branches_of_names_that_are_above(self):
        program = made(loop("a", add("x", term(1, x=1))), add("y", term(1, x=1)))
        tree = BEGIN
        for _ in range(20):
            tree = ("row", 0, (tree,))
        thing = ("row", 0, (("loop", tree, {"x": START}, START),))
        self.assertTrue(self.judged(program, "y", thing))
        self.assertEqual(branch_product(program, (), "y", thing), product(a=20, x=1))

    def test_one_name_at_different_places(self):
        program = made(add("x", term(1, a=1)), loop("x", add("y", term(1, x=1))), either((add("a", term(1, x=1, y=1)),), ()))
        long = ("row", 0, (START,))
        thing = ("row", 0, (("keep", long), ("loop", ("row", 0, (BEGIN,)), {"x": ("keep", START)}, long)))
        self.assertTrue(self.judged(program, "a", thing, (0,)))
        self.assertEqual(branch_product(program, (0,), "a", thing), product(a=2, x=1))
        self.assertFalse(self.judged(program, "a", thing, (1,)))

    def test_odd_objects_in_each_place(self):
        program = made(add("x", term(2), term(3, a=2, b=1)), loop("b", add("y", term(1, x=1))))
        thing = ("loop", ("row", 0, (BEGIN,)), {"x": ("row", 1, (START, START))}, ("keep", START))
        self.assertTrue(self.judged(program, "y", thing))
        for odd in odd_things():
            for wrong in replaced(thing, odd):
                self.judged(program, "y", wrong)

    def test_mutated_branches(self):
        rng = random.Random(91)
        verdicts = [0, 0]
        for program in some_programs(92, 150, 4) + loopy_programs(192, 150):
            for way in ways(program)[:2]:
                for name, products in heights(program, way).items():
                    for one in products or ():
                        thing = branch(program, way, name, one)
                        for _ in range(3):
                            wrong = mutated(rng, thing)
                            verdicts[self.judged(program, name, wrong, way)] += 1
                        verdicts[self.judged(program, rng.choice(program.names), thing, way)] += 1
        self.assertGreater(min(verdicts), 500)


class BranchTest(unittest.TestCase):
    def test_the_example_program(self):
        p = program_p()
        for one in [product(a=1, b=1), product(a=2), X]:
            found = branch(p, (), "x", one)
            self.assertTrue(is_branch(p, (), "x", found))
            self.assertEqual(branch_product(p, (), "x", found), one)

    def test_a_way_without_steps(self):
        self.assertEqual(branch(made(), (), "b", B), START)

    def test_each_product_of_each_height_has_a_branch(self):
        many = 0
        for program in some_programs(93, 300, 4) + loopy_programs(193, 300):
            for way in ways(program)[:3]:
                steps, flats = steps_and_flats(program, way)
                for name, products in heights(program, way).items():
                    for one in products or ():
                        found = branch(program, way, name, one)
                        self.assertEqual(told_branch_product(steps, flats, len(steps), name, found), one)
                        self.assertEqual(branch_product(program, way, name, found), one)
                        self.assertIs(is_branch(program, way, name, found), True)
                        self.assertLessEqual(depth_of(found), 60)
                        self.assertEqual(branch(program, way, name, one), found)
                        many += 1
        self.assertGreater(many, 1500)

    def test_long_ways(self):
        body = (add("x", term(1, a=1)), loop("b", add("y", term(1, x=1))))
        program = made(*body, call("do"), become("a", term(1, y=1)), call("do"), become("b", term(1, a=1)), call("do"), bodies={"do": body})
        for name, products in heights(program, ()).items():
            for one in products:
                found = branch(program, (), name, one)
                self.assertTrue(is_branch(program, (), name, found))
                self.assertEqual(branch_product(program, (), name, found), one)

    def test_rings_that_only_hand_on_share_their_products(self):
        for rows, products in [((add("y", term(2, b=1)), lift("x", 1, y=1), lift("y", 1, x=1)), [product(a=1, b=1), X, Y]),
                               ((lift("x", 5, b=2), lift("x", 1, y=1), lift("y", 1, x=1), lift("x", 1, a=1)), [A, product(b=2), X, Y]),
                               ((add("y"), lift("x", 1, y=1), lift("y", 1, b=1), lift("b", 1, x=1), add("b", term(1, a=2))), [product(a=3), B, X, Y])]:
            program = made(loop("a", *rows))
            for name in "xy":
                self.assertEqual(heights(program, ())[name], tuple(products))
                for one in products:
                    found = branch(program, (), name, one)
                    self.assertTrue(is_told_branch(*steps_and_flats(program, ()), name, found), found)
                    self.assertTrue(is_branch(program, (), name, found))
                    self.assertEqual(branch_product(program, (), name, found), one)

    def test_no_branch(self):
        p = program_p()
        for odd in odd_things() + [product(a=1), product(a=2, b=1), (("a", 2.0),), (("b", 1), ("a", 1)), [("x", 1)], (["x", 1],), (("x", True),),
                                   (("x", 1), ("x", 1)), "x", (("#", 1),), (("a", 0), ("x", 1)), (("x", 1, 1),)]:
            self.assertEqual(caught(branch, p, (), "x", odd), ("NoBranch",))
        above = made(loop("a", add("x", term(1, x=1))))
        for one in [X, A, product(a=1, x=1), (), None]:
            self.assertEqual(caught(branch, above, (), "x", one), ("NoBranch",))
        self.assertIsNone(caught(branch, above, (), "a", A))

    def test_errors_in_their_order(self):
        r = program_r()
        for odd in odd_things():
            if type(odd) is tuple and len(odd) == 1 and type(odd[0]) is int and odd[0] == 1:
                continue
            self.assertEqual(caught(branch, r, odd, "a", A), ("BadWay",))
            self.assertEqual(caught(branch, r, odd, odd, odd), ("BadWay",))
            self.assertEqual(caught(branch_product, r, odd, odd, START), ("BadWay",))
        for odd in odd_things():
            if type(odd) is str and odd in r.names:
                continue
            self.assertEqual(caught(branch, r, (0,), odd, odd)[0], "NoName")
            self.assertEqual(caught(branch_product, r, (0,), odd, ("keep", START))[0], "NoName")
        self.assertEqual(caught(branch, r, (0,), "y", None), ("NoName", "y"))
        self.assertEqual(caught(branch, r, (True,), "a", A), ("BadWay",))

    def test_nothing_is_changed_and_each_answer_is_new(self):
        for program in some_programs(94, 60):
            way = ways(program)[0]
            again = Program(program.names, program.bodies, program.main)
            for name, products in heights(program, way).items():
                for one in products or ():
                    found = branch(program, way, name, one)
                    kept = copy.deepcopy(found)
                    is_branch(program, way, name, found)
                    branch_product(program, way, name, found)
                    self.assertEqual(found, kept)
                    self.empty(found)
                    self.assertEqual(branch(again, way, name, one), kept)

    def empty(self, thing):
        """Take everything out of all dicts inside the thing."""
        for item in list(thing.values()) if isinstance(thing, dict) else thing if isinstance(thing, tuple) else ():
            self.empty(item)
        if isinstance(thing, dict):
            thing.clear()

    def test_orders_and_set_rows(self):
        program = made(orders((become("x", term(1, a=1, b=1)),), (add("b", term(1, x=1)),)), add("a", term(2), term(1, b=1, x=1)))
        for way in ways(program):
            for name, products in heights(program, way).items():
                for one in products:
                    self.assertEqual(branch_product(program, way, name, branch(program, way, name, one)), one)


if __name__ == "__main__":
    unittest.main()
