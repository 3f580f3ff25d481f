"""Runs played by a row of choices (3.3)."""

import random
import unittest

from howhigh.errors import BadChoices, BadStarts, TooLong
from howhigh.programs import Program
from howhigh.runs import played

from helper import (NaiveRun, add, caught, either, loop, odd_things, orders, program_p, program_r, some_programs, some_starts)

STARTS = {"a": 2, "b": 3, "x": 1}
MOST = 10 ** 1000


class PlayedTest(unittest.TestCase):
    def test_the_numbers_at_the_end(self):
        self.assertEqual(played(program_r(), STARTS, [0]), {"a": 2, "b": 3, "x": 3})
        self.assertEqual(played(program_r(), STARTS, (1,)), {"a": 2, "b": 5, "x": 1})
        self.assertEqual(played(program_p(), {"a": 3, "b": 1, "x": 1}, [3]), {"a": 3, "b": 4, "x": 7})
        self.assertEqual(played(program_p(), {"a": 3, "b": 1, "x": 1}, [0]), {"a": 3, "b": 1, "x": 1})

    def test_no_choice_at_all(self):
        one = Program(("a",), {}, (add("a"),))
        self.assertEqual(played(one, {"a": 1}, []), {"a": 2})
        self.assertEqual(played(one, {"a": 1}, ()), {"a": 2})

    def test_starts_and_choices_stay(self):
        starts, choices = dict(STARTS), [0]
        played(program_r(), starts, choices)["a"] = 9
        self.assertEqual((starts, choices), (STARTS, [0]))
        one = Program(("a",), {}, ())
        starts = {"a": 1}
        played(one, starts, [])["a"] = 9
        self.assertEqual(starts, {"a": 1})

    def test_many_runs(self):
        rng = random.Random(51)
        for one in some_programs(51, 150):
            starts = some_starts(rng, one, 4)
            run = NaiveRun(one, starts, lambda kind, many: rng.randrange(min(many, 3)))
            choices = [number for _, number in run.told]
            self.assertEqual(played(one, starts, choices), run.numbers)
            self.assertEqual(caught(played, one, starts, choices + [0]), ("BadChoices", len(choices)))
            for k in range(len(choices)):
                self.assertEqual(caught(played, one, starts, tuple(choices[:k])), ("BadChoices", k))
                self.assertEqual(caught(played, one, starts, choices[:k] + [-1] + choices[k + 1:]), ("BadChoices", k))


class ErrorsTest(unittest.TestCase):
    def test_starts_come_first(self):
        for starts in [{"a": 1}, None, {"a": 1, "b": 1, "x": 0}, {"a": 1, "b": 1, "x": 1, "y": 1}]:
            for choices in [[0], None, [9]]:
                with self.assertRaises(BadStarts):
                    played(program_r(), starts, choices)

    def test_what_is_no_row(self):
        great = Program(("a",), {}, (add("a"), either((), ())))
        for thing in odd_things():
            if not isinstance(thing, (list, tuple)):
                self.assertEqual(caught(played, program_r(), STARTS, thing), ("BadChoices", -1), thing)
                self.assertEqual(caught(played, great, {"a": MOST}, thing), ("BadChoices", -1), thing)
            self.assertEqual(caught(played, program_r(), thing, thing), ("BadStarts",), thing)

    def test_the_first_item_that_is_no_choice(self):
        one = Program(("a",), {}, (either((), ()), loop("a", orders((), ()))))
        self.assertIsNone(caught(played, one, {"a": 2}, [1, 2, 0, 1]))
        for choices, index in [([2], 0), ([1, 3], 1), ([1, 2, 2], 2), ([1, 2, 0, -1], 3), ([1, 2, 0, 1, 0], 4), ([], 0), ([1], 1),
                               ([1, 2], 2), ([1, 2, 0], 3), ([True, 2], 0), ([1, True], 1), ([1, 0, 0], 2), ([1, None], 1),
                               ([1, 2, 0, 1, None, None], 4), ([9, 9, 9], 0), ([1, 2, [0]], 2), ([1, "2"], 1)]:
            with self.assertRaises(BadChoices, msg=choices) as error:
                played(one, {"a": 2}, choices)
            self.assertEqual(error.exception.index, index, choices)

    def test_odd_things_in_the_row(self):
        for thing in odd_things():
            right = type(thing) is int and thing in (0, 1)
            self.assertEqual(caught(played, program_r(), STARTS, [thing]), None if right else ("BadChoices", 0), thing)
            self.assertEqual(caught(played, program_r(), STARTS, (0, thing)), ("BadChoices", 1), thing)

    def test_what_the_run_comes_to_first(self):
        one = Program(("a", "b"), {}, (add("a"), either((add("b"),), ()), loop("b", add("b"))))
        self.assertEqual(caught(played, one, {"a": MOST, "b": 1}, [7]), ("TooLong",))
        self.assertEqual(caught(played, one, {"a": 1, "b": MOST}, [0, 7]), ("TooLong",))
        self.assertEqual(caught(played, one, {"a": 1, "b": MOST}, [2, 7]), ("BadChoices", 0))
        self.assertEqual(caught(played, one, {"a": 1, "b": 10 ** 9}, [0, 5001, -1]), ("TooLong",))
        self.assertEqual(caught(played, one, {"a": 1, "b": 10 ** 9}, [0, 10 ** 9 + 2]), ("BadChoices", 1))
        self.assertEqual(caught(played, one, {"a": 1, "b": 10 ** 9}, [0, 4999, 0]), ("BadChoices", 2))
        with self.assertRaises(TooLong):
            played(one, {"a": 1, "b": 10 ** 9}, [1, 5000])

    def test_ten_thousand_choices(self):
        one = Program(("a",), {}, (loop("a", either((), ())),))
        self.assertEqual(played(one, {"a": 10 ** 5}, [9999] + [1] * 9999), {"a": 10 ** 5})
        self.assertEqual(caught(played, one, {"a": 10 ** 5}, [9999] + [1] * 9998), ("BadChoices", 9999))
        self.assertEqual(caught(played, one, {"a": 10 ** 5}, [10001] + [1] * 10000), ("TooLong",))
        self.assertEqual(played(one, {"a": 10 ** 5}, [10000] + [1] * 10000), {"a": 10 ** 5})


if __name__ == "__main__":
    unittest.main()
