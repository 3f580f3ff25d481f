"""Above trees (8.2 and 8.3)."""

import copy
import random
import unittest

from helper import (add, become, caught, depth_of, either, is_told_above, lift, loop, loopy_programs, mutated, naive_above_names, odd_things,
                    product, program_p, program_r, replaced, some_programs, steps_and_flats, term)
from howhigh.abovetrees import above, is_above
from howhigh.heights import heights
from howhigh.programs import Program
from howhigh.ways import ways

RING = ("loop", ("ring", (0,)))


def made(*main, bodies=None):
    return Program(("a", "b", "x", "y"), bodies or {}, main)


def doubled(name="x", by="a"):
    return loop(by, add(name, term(1, **{name: 1})))


class IsAboveTest(unittest.TestCase):
    def judged(self, program, name, thing, way=()):
        steps, flats = steps_and_flats(program, way)
        found = is_above(program, way, name, thing)
        self.assertIs(found, is_told_above(steps, flats, len(steps), name, thing), thing)
        return found

    def test_nothing_is_above_at_the_beginning(self):
        for thing in [("start",), ("keep", ("start",)), ("loop", ("ring", ())), RING, (), None]:
            self.assertFalse(self.judged(made(), "x", thing))

    def test_rings_of_one_row(self):
        for row, good in [(add("x", term(1, x=1)), True), (lift("x", 2, x=1), True), (lift("x", 1, x=2), True), (lift("x", 1, a=1, x=1), True),
                          (lift("x", 1, x=1), False), (add("x"), False), (lift("x", 5, a=1), False)]:
            self.assertIs(self.judged(made(loop("a", row)), "x", RING), good, row)
        self.assertFalse(self.judged(made(doubled()), "a", RING))

    def test_rings_of_several_rows(self):
        program = made(loop("a", lift("x", 1, y=1), lift("y", 1, b=1), lift("b", 3, x=1), lift("b", 1, x=1, y=1), lift("y", 1, x=1)))
        # 0 lifts b to x * y, 1 b to 3 x, 2 x to y, 3 y to b, 4 y to x.
        for numbers, good in [((2, 3, 1), True), ((2, 3, 0), True), ((2, 4), False), ((2, 3), False), ((3, 1, 2), False), ((2, 1, 3), False),
                              ((2, 4, 2, 3, 1), True), ((2, 3, 1, 2, 4), True), ((2, 4, 2, 4), False), ((2, 3, 1, 2, 3, 1), True), ((2,), False), ((), False)]:
            self.assertIs(self.judged(program, "x", ("loop", ("ring", numbers))), good, numbers)
        self.assertTrue(self.judged(program, "y", ("loop", ("ring", (3, 1, 2)))))
        self.assertTrue(self.judged(program, "b", ("loop", ("ring", (0, 3)))))
        for numbers in [[2, 3, 1], (2, 3, True), (2, 3, 5), (2, 3, -4), (2, 3, "1"), (2, 3, None), ((2, 3, 1),), 2, None]:
            self.assertFalse(self.judged(program, "x", ("loop", ("ring", numbers))))

    def test_a_power_counts_by_the_name_that_is_next(self):
        program = made(loop("a", lift("x", 1, y=2), lift("y", 1, x=1)))
        self.assertTrue(self.judged(program, "x", ("loop", ("ring", (0, 1)))))
        self.assertTrue(self.judged(program, "y", ("loop", ("ring", (1, 0)))))

    def test_keep(self):
        program = made(doubled(), add("a"), become("x", term(1, x=1)))
        self.assertFalse(self.judged(program, "x", ("keep", ("keep", RING))))
        self.assertTrue(self.judged(program, "x", ("row", 0, "x", ("keep", RING))))
        self.assertTrue(self.judged(made(doubled(), add("x"), loop("b")), "x", ("keep", ("keep", RING))))

    def test_rows(self):
        program = made(doubled(), add("y", term(1), term(2, a=1, x=1)))
        self.assertTrue(self.judged(program, "y", ("row", 1, "x", RING)))
        for thing in [("row", 0, "x", RING), ("row", 1, "a", RING), ("row", 1, "y", RING), ("row", 2, "x", RING), ("row", True, "x", RING),
                      ("row", -1, "x", RING), ("row", 1, "x"), ("row", 1, "x", RING, ()), ["row", 1, "x", RING], ("row", 1, ("x",), RING),
                      ("row", 1, None, RING), ("row", 1, "x", ("keep", RING))]:
            self.assertFalse(self.judged(program, "y", thing), thing)
        self.assertFalse(self.judged(program, "x", ("row", 1, "x", RING)))
        self.assertTrue(self.judged(made(doubled(), lift("y", 2, x=1)), "y", ("row", 0, "x", RING)))

    def test_rows_and_loops_stand_for_steps_of_their_kind(self):
        program = made(doubled(), add("x", term(1, x=1)))
        self.assertTrue(self.judged(program, "x", ("row", 0, "x", RING)))
        self.assertFalse(self.judged(program, "x", ("loop", ("before", RING))))
        self.assertFalse(self.judged(program, "x", RING))
        program = made(doubled(), loop("x", add("x", term(1, x=1))))
        self.assertFalse(self.judged(program, "x", ("row", 0, "x", RING)))
        self.assertFalse(self.judged(program, "x", ("row", 1, "x", RING)))

    def test_hand_before_and_count(self):
        program = made(doubled(), loop("x", add("y", term(1, b=1)), lift("b", 1, a=1), lift("a", 2, x=1), lift("x", 1, y=1)))
        # 0 adds b to y, 1 lifts a to 2 x, 2 b to a, 3 x to y; all are in one part.
        self.assertTrue(self.judged(program, "x", ("loop", ("before", RING))))
        self.assertTrue(self.judged(program, "y", ("loop", ("count", 0, RING))))
        self.assertTrue(self.judged(program, "a", ("loop", ("hand", 1, "x", ("before", RING)))))
        self.assertTrue(self.judged(program, "b", ("loop", ("hand", 2, "a", ("hand", 1, "x", ("hand", 3, "y", ("count", 0, RING)))))))
        self.assertTrue(self.judged(program, "b", ("loop", ("hand", 2, "a", ("ring", (1, 3, 0, 2))))))
        for name, thing in [("b", ("count", 2, RING)), ("y", ("count", 0, ("start",))), ("y", ("count", 0)), ("y", ("count", False, RING)),
                            ("a", ("count", 0, RING)), ("y", ("count", 4, RING)), ("y", ("count", -4, RING)), ("a", ("hand", 1, "y", ("before", RING))),
                            ("a", ("hand", 1, "a", ("before", RING))), ("b", ("hand", 1, "x", ("before", RING))), ("a", ("hand", True, "x", ("before", RING))),
                            ("a", ("hand", 1, "x", RING)), ("a", ("hand", 1, "x")), ("a", ("before", RING)), ("y", ("before", RING)), ("x", ("before", ("keep", RING)))]:
            self.assertFalse(self.judged(program, name, ("loop", thing)), (name, thing))
        self.assertFalse(self.judged(program, "x", ("before", RING)))
        self.assertTrue(self.judged(program, "x", ("keep", RING)))

    def test_count_by_the_name_of_the_loop_only(self):
        program = made(doubled(), loop("b", add("y")))
        self.assertFalse(self.judged(program, "y", ("loop", ("count", 0, RING))))
        self.assertFalse(self.judged(made(doubled(), loop("x", lift("y", 2))), "y", ("loop", ("count", 0, RING))))

    def test_odd_objects_in_each_place(self):
        program = made(doubled(), loop("x", add("y", term(1, b=1)), lift("b", 1, a=1)), add("a", term(1, b=1, y=1)))
        thing = ("row", 0, "y", ("loop", ("count", 0, RING)))
        self.assertTrue(self.judged(program, "a", thing))
        for odd in odd_things():
            for wrong in replaced(thing, odd):
                self.judged(program, "a", wrong)

    def test_deep_trees(self):
        program = made(loop("a", lift("x", 1, y=1), lift("y", 1, x=1), add("x", term(1, x=1))))
        # 0 adds x to x, 1 lifts x to y, 2 y to x.
        tree = ("ring", (0,))
        for _ in range(28):
            tree = ("hand", 1, "y", ("hand", 2, "x", tree))
        self.assertTrue(self.judged(program, "x", ("loop", tree)))
        self.assertFalse(self.judged(program, "y", ("loop", tree)))
        self.assertTrue(self.judged(program, "x", ("loop", ("ring", (1, 2) * 500 + (0,)))))


class AboveTest(unittest.TestCase):
    def test_none_where_the_height_is_not_none(self):
        self.assertIsNone(above(program_p(), (), "x"))
        self.assertIsNone(above(made(), (), "a"))
        self.assertIsNone(above(made(loop("a", lift("x", 1, x=1))), (), "x"))
        self.assertIsNone(above(made(doubled(), become("x", term(1, a=1))), (), "x"))

    def test_each_name_whose_height_is_none_has_one(self):
        many = 0
        for program in some_programs(95, 300, 4) + loopy_programs(98, 400):
            for way in ways(program)[:3]:
                steps, flats = steps_and_flats(program, way)
                names = naive_above_names(program.names, steps, flats)[-1]
                found = heights(program, way)
                for name in program.names:
                    tree = above(program, way, name)
                    self.assertEqual(tree is not None, name in names)
                    self.assertEqual(tree is not None, found[name] is None)
                    if tree is not None:
                        self.assertTrue(is_told_above(steps, flats, len(steps), name, tree), (program.main, name, tree))
                        self.assertIs(is_above(program, way, name, tree), True)
                        self.assertLessEqual(depth_of(tree), 60)
                        self.assertEqual(above(Program(program.names, program.bodies, program.main), way, name), tree)
                        many += 1
        self.assertGreater(many, 500)

    def test_mutated_trees(self):
        rng = random.Random(96)
        verdicts = [0, 0]
        for program in some_programs(97, 200, 4) + loopy_programs(99, 300):
            for way in ways(program)[:2]:
                steps, flats = steps_and_flats(program, way)
                for name in program.names:
                    tree = above(program, way, name)
                    for _ in range(6 if tree else 0):
                        wrong = mutated(rng, tree, [("ring", (0,)), ("hand", 0, name, ("ring", (0,))), ("count", 0, tree), ("before", tree)])
                        found = is_above(program, way, name, wrong)
                        self.assertIs(found, is_told_above(steps, flats, len(steps), name, wrong), wrong)
                        verdicts[found] += 1
        self.assertGreater(min(verdicts), 100)

    def test_long_chains(self):
        steps = [doubled("a", "b")]
        for giver, name in ["ax", "xb", "by", "yx", "xa"]:
            steps += [loop("y", lift(name, 1, **{giver: 1})), become(giver, term(1, **{name: 1}))]
        program = made(*steps)
        tree = above(program, (), "a")
        self.assertTrue(is_above(program, (), "a", tree))
        self.assertLessEqual(depth_of(tree), 60)

    def test_errors(self):
        r = program_r()
        for odd in odd_things():
            if not (type(odd) is tuple and len(odd) == 1 and type(odd[0]) is int and odd[0] == 1):
                self.assertEqual(caught(above, r, odd, "a"), ("BadWay",))
                self.assertEqual(caught(above, r, odd, odd), ("BadWay",))
            if not (type(odd) is str and odd in r.names):
                self.assertEqual(caught(above, r, (0,), odd)[0], "NoName")
        self.assertEqual(caught(above, r, (0,), "y"), ("NoName", "y"))

    def test_nothing_is_changed(self):
        program = made(doubled(), either((add("y", term(1, x=1)),), ()))
        tree = above(program, (0,), "y")
        kept = copy.deepcopy((program.names, program.bodies, program.main, tree))
        is_above(program, (0,), "y", tree)
        self.assertEqual((program.names, program.bodies, program.main, tree), kept)
        self.assertIsNone(above(program, (1,), "y"))
        self.assertEqual(heights(program, (1,))["y"], (product(y=1),))


if __name__ == "__main__":
    unittest.main()
