"""Frontiers (3.5)."""

import random
import unittest

from howhigh.errors import NotTop
from howhigh.frontiers import choices_to, frontier, greatest
from howhigh.programs import Program
from howhigh.runs import played

from helper import (add, all_ends, become, call, caught, either, lift, loop, maxima, odd_things, orders, program_p, program_r,
                    some_programs, some_starts, term)

STARTS = {"a": 2, "b": 3, "x": 1}


class FrontierTest(unittest.TestCase):
    def test_the_example_of_the_document(self):
        self.assertEqual(frontier(program_r(), STARTS), [(2, 3, 3), (2, 5, 1)])

    def test_all_rounds(self):
        self.assertEqual(frontier(program_p(), {"a": 3, "b": 1, "x": 1}), [(3, 4, 7)])

    def test_no_choice(self):
        self.assertEqual(frontier(Program(("a", "b"), {}, (become("a", term(2, b=1)),)), {"a": 9, "b": 2}), [(4, 2)])

    def test_tuples_under_others_are_left_out(self):
        one = Program(("a", "b"), {}, (either((add("a"),), (add("a"), add("b")), (add("b", term(5)),)),))
        self.assertEqual(frontier(one, {"a": 1, "b": 1}), [(1, 6), (2, 2)])

    def test_equal_ends_of_different_runs_stand_once(self):
        one = Program(("a", "b"), {}, (orders((add("a"),), (add("b"),)), either((add("a"),), (add("a"),))))
        self.assertEqual(frontier(one, {"a": 1, "b": 1}), [(3, 2)])
        two = Program(("a", "b", "x"), {}, (loop("x", either((add("a"),), (add("b"),))),))
        self.assertEqual(frontier(two, {"a": 1, "b": 1, "x": 4}), [(1 + k, 5 - k, 4) for k in range(5)])

    def test_what_is_less_now_can_be_greater_at_the_end(self):
        grow = (either((add("a", term(9)),), (add("b", term(2)),)), become("x", term(1, a=1, b=2)))
        one = Program(("a", "b", "x"), {}, grow + (become("a", term(1, x=1)), become("b", term(1, x=1))))
        self.assertEqual(frontier(one, {"a": 1, "b": 1, "x": 1}), [(10, 10, 10)])

    def test_different_rounds_from_different_tuples(self):
        one = Program(("a", "b"), {}, (either((add("a", term(3)),), (add("b", term(9)),)), loop("a", add("b"))))
        self.assertEqual(frontier(one, {"a": 1, "b": 1}), [(1, 11), (4, 5)])
        two = Program(("a", "b"), {}, (either((add("a", term(3)),), (add("b", term(9)),)), loop("a", add("b", term(1, a=1)))))
        self.assertEqual(frontier(two, {"a": 1, "b": 1}), [(4, 17)])

    def test_many_frontiers(self):
        rng = random.Random(71)
        told = 0
        for one in some_programs(71, 1500):
            starts = some_starts(rng, one, 3)
            ends = all_ends(one, starts, 3000)
            if ends is None:
                continue
            told += len(maxima(ends)) > 1
            self.assertEqual(frontier(one, starts), maxima(ends), (one.names, one.bodies, one.main, starts))
            for numbers in ends:
                if numbers in frontier(one, starts):
                    choices = choices_to(one, starts, numbers)
                    self.assertIs(type(choices), list)
                    self.assertEqual(played(one, starts, choices), dict(zip(one.names, numbers)))
                else:
                    self.assertEqual(caught(choices_to, one, starts, numbers), ("NotTop",))
            for k, name in enumerate(one.names):
                self.assertEqual(greatest(one, starts, name), max(numbers[k] for numbers in ends))
        self.assertGreater(told, 50)

    def test_sixty_steps(self):
        rows = either((add("a"),), (add("b"),), (add("x"),))
        one = Program(("a", "b", "x", "y"), {}, (loop("y", rows),))
        found = frontier(one, {"a": 1, "b": 1, "x": 1, "y": 30})
        self.assertEqual(len(found), 31 * 32 // 2)
        self.assertEqual({sum(numbers) for numbers in found}, {63})
        turns = Program(("a", "b"), {}, (loop("a", orders((add("a", term(1, b=1)),), (add("b", term(1, a=1)),), (lift("b", 2, a=1),))),))
        self.assertEqual(played(turns, {"a": 15, "b": 1}, choices_to(turns, {"a": 15, "b": 1}, frontier(turns, {"a": 15, "b": 1})[0])),
                         dict(zip(("a", "b"), frontier(turns, {"a": 15, "b": 1})[0])))

    def test_great_numbers(self):
        one = Program(("a",), {}, (become("a", term(1, a=2)),) * 3 + (either((), (add("a"),)),))
        self.assertEqual(frontier(one, {"a": 10 ** 125}), [(10 ** 1000 + 1,)])

    def test_answers_are_new_and_starts_stay(self):
        starts = dict(STARTS)
        frontier(program_r(), starts).clear()
        self.assertEqual(frontier(program_r(), starts), [(2, 3, 3), (2, 5, 1)])
        choices_to(program_r(), starts, (2, 5, 1)).clear()
        self.assertEqual(choices_to(program_r(), starts, (2, 5, 1)), [1])
        self.assertEqual(starts, STARTS)

    def test_the_order_of_keys_means_nothing(self):
        one = Program(("a", "b", "x"), {"go": (either((add("a"),), (add("b"),)),)}, (loop("x", call("go"), call("go")),))
        starts = {"a": 1, "b": 1, "x": 4}
        turned = dict(reversed(list(starts.items())))
        self.assertEqual(frontier(one, starts), frontier(one, turned))
        for numbers in frontier(one, starts):
            self.assertEqual(choices_to(one, starts, numbers), choices_to(one, turned, numbers))


class ErrorsTest(unittest.TestCase):
    def test_starts_come_first(self):
        for starts in [{}, {"a": 1, "b": 1}, {"a": 1, "b": 1, "x": True}, {"a": 1, "b": 1, "x": 0}, None]:
            self.assertEqual(caught(frontier, program_r(), starts), ("BadStarts",))
            for thing in [None, (1, 1, 1), "x", 7]:
                self.assertEqual(caught(choices_to, program_r(), starts, thing), ("BadStarts",))
                self.assertEqual(caught(greatest, program_r(), starts, thing), ("BadStarts",))

    def test_what_is_no_tuple_of_the_frontier(self):
        one = Program(("a", "b"), {}, (either((add("a"),), (add("b"),), ()),))
        starts = {"a": 1, "b": 1}
        self.assertEqual(choices_to(one, starts, (2, 1)), [0])
        for numbers in [(1, 1), (2, 2), (1, 3), [2, 1], (2,), (2, 1, 1), (2, True), (True, 2), (2, None), ("2", 1), ((2, 1),), {},
                        {"a": 2, "b": 1}, None, (), 2, ([2], 1), (one, one)]:
            with self.assertRaises(NotTop, msg=numbers):
                choices_to(one, starts, numbers)

    def test_odd_things(self):
        one = Program(("a",), {}, (either((add("a"),), ()),))
        for thing in odd_things():
            self.assertEqual(caught(frontier, one, thing), None if thing == {"a": 1} else ("BadStarts",), thing)
            self.assertEqual(caught(choices_to, one, {"a": 1}, thing), ("NotTop",), thing)
            self.assertEqual(caught(choices_to, one, {"a": 1}, (thing,)), None if type(thing) is int and thing == 2 else ("NotTop",))
            told = caught(greatest, one, {"a": 1}, thing)
            if type(thing) is str and thing == "a":
                self.assertIsNone(told)
            else:
                self.assertEqual(told[0], "NoName")
                self.assertIs(told[1], thing)


if __name__ == "__main__":
    unittest.main()
