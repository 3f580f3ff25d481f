"""Runs (3.1 and 3.2)."""

import random
import unittest

from howhigh.errors import BadChoice, BadStarts, NothingDone, NoName, Over, TooLong
from howhigh.programs import Program
from howhigh.runs import Run

from helper import (NaiveRun, add, become, call, caught, either, lift, loop, odd_things, orders, program_p, program_r,
                    some_programs, some_starts, term)

MOST = 10 ** 1000


def told(run):
    """All that a run tells of itself."""
    return (run.choice, run.numbers, run.steps, run.chosen())


def begun(*statements, **starts):
    return Run(Program(tuple(sorted(starts)), {}, statements), starts)


class BeginningTest(unittest.TestCase):
    def test_it_goes_on_to_the_first_choice(self):
        run = Run(program_p(), {"a": 3, "b": 1, "x": 1})
        self.assertEqual(told(run), (("loop", 3), {"a": 3, "b": 1, "x": 1}, 0, []))
        run = begun(add("a"), either((), (), ()), a=4)
        self.assertEqual(told(run), (("either", 3), {"a": 5}, 1, []))

    def test_it_goes_on_to_the_end(self):
        self.assertEqual(told(begun(a=1)), (None, {"a": 1}, 0, []))
        self.assertEqual(told(begun(add("a"), lift("b", 2, a=2), a=2, b=3)), (None, {"a": 3, "b": 18}, 2, []))

    def test_rows(self):
        run = begun(add("a", term(2), term(3, a=1, b=1)), lift("b", 2, b=1), lift("b", 1, b=1), lift("b", 1),
                    become("c", term(1, a=1), term(1, b=1)), a=1, b=2, c=100)
        self.assertEqual(told(run), (None, {"a": 9, "b": 4, "c": 13}, 5, []))

    def test_rows_use_the_numbers_ahead_of_them(self):
        self.assertEqual(begun(add("a", term(1, a=1), term(1, a=2)), a=3).numbers, {"a": 15})
        self.assertEqual(begun(become("a", term(1, b=1)), become("b", term(1, a=1)), a=3, b=5).numbers, {"a": 5, "b": 5})

    def test_choices_of_each_kind(self):
        self.assertEqual(begun(either((), ()), a=1).choice, ("either", 2))
        self.assertEqual(begun(either((), (), ()), a=1).choice, ("either", 3))
        self.assertEqual(begun(orders((), ()), a=1).choice, ("orders", 2))
        self.assertEqual(begun(orders((), (), ()), a=1).choice, ("orders", 6))
        self.assertEqual(begun(loop("a"), a=7).choice, ("loop", 7))
        self.assertEqual(begun(add("a"), loop("a"), a=10 ** 29).choice, ("loop", 10 ** 29 + 1))


class StartsTest(unittest.TestCase):
    def test_wrong_starts(self):
        for starts in [{}, {"a": 1}, {"a": 1, "b": 1}, {"a": 1, "b": 1, "x": 1, "y": 1}, {"a": 1, "b": 1, "y": 1},
                       {"a": 1, "b": 1, "x": 0}, {"a": 1, "b": -1, "x": 1}, {"a": True, "b": 1, "x": 1}, {"a": 1, "b": 1, "x": None},
                       {"a": 1, "b": 1, "x": "1"}, {"a": 1, "b": 1, "x": [1]}, [("a", 1), ("b", 1), ("x", 1)], (1, 1, 1),
                       {"a": 1, "b": 1, "X": 1}, {"a": 1, "b": 1, ("x",): 1}, {"a": 1, "b": 1, None: 1}, {"a": 1, "b": 1, 1: 1}]:
            with self.assertRaises(BadStarts, msg=starts):
                Run(program_p(), starts)

    def test_odd_things(self):
        for thing in odd_things():
            self.assertEqual(caught(Run, program_p(), thing), ("BadStarts",), thing)
            right = type(thing) is int and thing >= 1
            self.assertEqual(caught(Run, program_p(), {"a": 1, "b": thing, "x": 1}), None if right else ("BadStarts",), thing)

    def test_starts_stand_ahead_of_what_is_too_long(self):
        one = Program(("a",), {}, (become("a", term(1, a=3)),))
        self.assertEqual(caught(Run, one, {"a": MOST}), ("TooLong",))
        self.assertEqual(caught(Run, one, {"a": MOST, "b": 1}), ("BadStarts",))

    def test_starts_are_copied(self):
        starts = {"a": 2, "b": 1, "x": 1}
        run = Run(program_p(), starts)
        starts["a"] = 9
        self.assertEqual(run.copy().numbers, {"a": 2, "b": 1, "x": 1})
        run.choose(2)
        run.back()
        self.assertEqual(told(run), (("loop", 2), {"a": 2, "b": 1, "x": 1}, 0, []))
        self.assertEqual(starts, {"a": 9, "b": 1, "x": 1})

    def test_numbers_and_chosen_are_new_each_time(self):
        run = begun(either((), ()), either((), ()), a=1)
        run.choose(1)
        run.numbers["a"] = 5
        run.numbers.clear()
        run.chosen().append(3)
        self.assertEqual((run.numbers, run.chosen()), ({"a": 1}, [1]))
        self.assertIsNot(run.numbers, run.numbers)


class ChoosingTest(unittest.TestCase):
    def test_either(self):
        for number, value in [(0, 2), (1, 3), (2, 4)]:
            run = begun(either((add("a"),), (add("a", term(2)),), (add("a", term(3)),)), a=1)
            self.assertIsNone(run.choose(number))
            self.assertEqual(told(run), (None, {"a": value}, 1, [number]))

    def test_orders(self):
        double, two, square = (become("a", term(2, a=1)),), (add("a", term(2)),), (become("a", term(1, a=2)),)
        for number, value in enumerate([(2 * 3 + 2) ** 2, (2 * 3) ** 2 + 2, ((3 + 2) * 2) ** 2, (3 + 2) ** 2 * 2, 9 * 2 + 2, (9 + 2) * 2]):
            run = begun(orders(double, two, square), a=3)
            run.choose(number)
            self.assertEqual(told(run), (None, {"a": value}, 3, [number]))

    def test_loops(self):
        for rounds in range(4):
            run = Run(program_p(), {"a": 3, "b": 1, "x": 1})
            run.choose(rounds)
            self.assertEqual(told(run), (None, {"a": 3, "b": 1 + rounds, "x": 1 + sum(range(rounds + 1))}, 3 * rounds, [rounds]))

    def test_the_rounds_are_told_when_the_loop_begins(self):
        run = begun(loop("a", add("a")), a=3)
        run.choose(3)
        self.assertEqual(told(run), (None, {"a": 6}, 6, [3]))
        run = begun(loop("a", add("b"), loop("b")), a=2, b=1)
        run.choose(2)
        self.assertEqual(run.choice, ("loop", 2))
        run.choose(0)
        self.assertEqual(run.choice, ("loop", 3))

    def test_choices_inside_loops(self):
        run = begun(loop("a", either((add("b"),), ()), add("c")), add("a"), a=2, b=1, c=1)
        run.choose(2)
        self.assertEqual(told(run), (("either", 2), {"a": 2, "b": 1, "c": 1}, 1, [2]))
        run.choose(0)
        self.assertEqual(told(run), (("either", 2), {"a": 2, "b": 2, "c": 2}, 4, [2, 0]))
        run.choose(1)
        self.assertEqual(told(run), (None, {"a": 3, "b": 2, "c": 3}, 6, [2, 0, 1]))

    def test_calls(self):
        bodies = {"go": (add("a"), either((call("to"),), ())), "to": (loop("a", add("a")),)}
        run = Run(Program(("a",), bodies, (call("go"), call("to"))), {"a": 1})
        self.assertEqual(told(run), (("either", 2), {"a": 2}, 1, []))
        run.choose(0)
        self.assertEqual(run.choice, ("loop", 2))
        run.choose(2)
        self.assertEqual(told(run), (("loop", 4), {"a": 4}, 5, [0, 2]))

    def test_empty_blocks_make_no_steps_but_rounds_do(self):
        run = begun(loop("a"), loop("a"), either((), ()), a=5)
        run.choose(4)
        self.assertEqual((run.steps, run.choice), (4, ("loop", 5)))
        run.choose(0)
        self.assertEqual((run.steps, run.choice), (4, ("either", 2)))

    def test_wrong_choices(self):
        for kind, many, run in [("either", 2, begun(either((), ()), a=1)), ("orders", 6, begun(orders((), (), ()), a=1)),
                                ("loop", 8, begun(loop("a"), a=7))]:
            before = told(run)
            for number in [-1, many, many + 1, 10 ** 29, True, False, None, "0", [0], (0,), {}, b"0", run, NotImplemented]:
                with self.assertRaises(BadChoice, msg=(kind, number)):
                    run.choose(number)
                self.assertEqual(told(run), before)
            run.choose(many - 1)
            self.assertIsNone(run.choice)

    def test_odd_things(self):
        for thing in odd_things():
            run = begun(loop("a"), a=3)
            right = type(thing) is int and 0 <= thing <= 3
            self.assertEqual(caught(run.choose, thing), None if right else ("BadChoice",), thing)
            over = begun(a=1)
            self.assertEqual(caught(over.choose, thing), ("Over",), thing)

    def test_nothing_is_chosen_when_the_run_is_over(self):
        run = begun(either((), (add("a"),)), a=1)
        run.choose(1)
        before = told(run)
        for number in [0, 1, None, "x", True]:
            with self.assertRaises(Over):
                run.choose(number)
        self.assertEqual(told(run), before)

    def test_many_runs(self):
        rng = random.Random(31)
        for one in some_programs(31, 150):
            starts = some_starts(rng, one, 4)
            for _ in range(3):
                chosen = NaiveRun(one, starts, lambda kind, many: rng.randrange(min(many, 3) + (kind == "loop" and many < 3)))
                run = Run(one, starts)
                for choice, number in chosen.told:
                    self.assertEqual(run.choice, choice)
                    run.choose(number)
                self.assertEqual(told(run), (None, chosen.numbers, chosen.steps, [number for _, number in chosen.told]))


class TooLongTest(unittest.TestCase):
    def test_ten_thousand_steps_and_one_more(self):
        run = begun(loop("a"), a=10 ** 29)
        before = told(run)
        for rounds in [10001, 10 ** 29]:
            with self.assertRaises(TooLong):
                run.choose(rounds)
            self.assertEqual(told(run), before)
        run.choose(10000)
        self.assertEqual(told(run), (None, {"a": 10 ** 29}, 10000, [10000]))

    def test_steps_are_counted_in_all(self):
        run = begun(add("a"), loop("a", add("b")), either((add("b"),), (), (add("b"), add("b"))), loop("a"), a=10 ** 4, b=1)
        run.choose(4999)
        self.assertEqual(run.steps, 9999)
        self.assertEqual(caught(run.choose, 2), ("TooLong",))
        run.choose(0)
        self.assertEqual((run.steps, run.choice), (10000, ("loop", 10001)))
        self.assertEqual(caught(run.choose, 1), ("TooLong",))
        run.choose(0)
        self.assertEqual((run.steps, run.choice), (10000, None))

    def test_only_what_is_ahead_of_the_next_choice_counts(self):
        run = begun(loop("a", either((), ())), a=10 ** 5)
        run.choose(10 ** 5)
        for _ in range(9999):
            run.choose(1)
        self.assertEqual((run.steps, run.choice), (10000, ("either", 2)))
        self.assertEqual(caught(run.choose, 1), ("TooLong",))
        self.assertEqual((run.steps, len(run.chosen())), (10000, 10000))
        run.back()
        self.assertEqual((run.steps, len(run.chosen())), (9999, 9999))

    def test_the_greatest_number_at_the_beginning(self):
        one = Program(("a",), {}, (add("a"), either((), ())))
        self.assertEqual(Run(one, {"a": MOST - 1}).numbers, {"a": MOST})
        self.assertEqual(caught(Run, one, {"a": MOST}), ("TooLong",))
        grown = Program(("a",), {}, (become("a", term(1, a=2)),) * 3 + (lift("a", 1, a=2),))
        self.assertEqual(caught(Run, grown, {"a": 10 ** 29}), None)
        for _ in range(2):
            grown = Program(("a",), {}, grown.main + (become("a", term(1, a=2)),))
        self.assertEqual(caught(Run, grown, {"a": 10 ** 15}), None)
        self.assertEqual(caught(Run, grown, {"a": 10 ** 16}), ("TooLong",))

    def test_only_rows_can_be_too_great(self):
        self.assertEqual(begun(loop("a"), a=MOST + 1).choice, ("loop", MOST + 1))
        self.assertEqual(caught(begun, lift("a", 1), a=MOST + 1), ("TooLong",))
        self.assertEqual(begun(add("b"), a=MOST + 1, b=1).numbers, {"a": MOST + 1, "b": 2})

    def test_a_great_number_that_is_set_back_is_too_great_all_the_same(self):
        self.assertEqual(caught(begun, add("a"), become("a", term(1, b=1)), a=MOST, b=1), ("TooLong",))
        self.assertEqual(begun(become("a", term(1, b=1)), add("a"), a=MOST, b=1).numbers, {"a": 2, "b": 1})

    def test_the_greatest_number_by_a_choice(self):
        run = begun(either((add("a"),), (add("a", term(2)),)), a=MOST - 1)
        before = told(run)
        with self.assertRaises(TooLong):
            run.choose(1)
        self.assertEqual(told(run), before)
        run.choose(0)
        self.assertEqual(told(run), (None, {"a": MOST}, 1, [0]))

    def test_the_greatest_number_in_the_middle_of_a_loop(self):
        run = begun(loop("b", add("c"), add("a", term(9, a=1))), a=1, b=1200, c=1)
        before = told(run)
        for rounds in [1001, 1200]:
            with self.assertRaises(TooLong):
                run.choose(rounds)
            self.assertEqual(told(run), before)
        run.choose(1000)
        self.assertEqual(told(run), (None, {"a": MOST, "b": 1200, "c": 1001}, 3000, [1000]))


class BackTest(unittest.TestCase):
    def test_back_leads_to_what_was_told_ahead_of_the_choice(self):
        rng = random.Random(41)
        for one in some_programs(41, 60):
            run = Run(one, some_starts(rng, one, 3))
            seen = []
            while run.choice is not None and len(seen) < 30:
                seen.append(told(run))
                kind, many = run.choice
                run.choose(rng.randrange(min(many, 2) + (kind == "loop" and many < 2)))
            while seen:
                self.assertIsNone(run.back())
                self.assertEqual(told(run), seen.pop())
            self.assertEqual(caught(run.back), ("NothingDone",))

    def test_there_is_nothing_to_take_back_at_the_beginning(self):
        run = Run(program_r(), {"a": 1, "b": 1, "x": 1})
        before = told(run)
        with self.assertRaises(NothingDone):
            run.back()
        self.assertEqual(told(run), before)
        run.choose(0)
        run.back()
        with self.assertRaises(NothingDone):
            run.back()
        self.assertEqual(told(run), before)

    def test_other_choices_behind_back(self):
        run = Run(program_r(), {"a": 2, "b": 3, "x": 1})
        run.choose(0)
        run.back()
        run.choose(1)
        self.assertEqual(told(run), (None, {"a": 2, "b": 5, "x": 1}, 1, [1]))


class CopyTest(unittest.TestCase):
    def test_a_copy_and_its_elder_go_on_apart(self):
        run = begun(either((add("a"),), (add("b"),)), loop("a", add("c")), a=1, b=1, c=1)
        run.choose(0)
        copy = run.copy()
        self.assertIsInstance(copy, Run)
        self.assertEqual(told(copy), told(run))
        copy.choose(2)
        self.assertEqual(told(run), (("loop", 2), {"a": 2, "b": 1, "c": 1}, 1, [0]))
        self.assertEqual(told(copy), (None, {"a": 2, "b": 1, "c": 3}, 5, [0, 2]))
        run.back()
        run.choose(1)
        self.assertEqual(told(run), (("loop", 1), {"a": 1, "b": 2, "c": 1}, 1, [1]))
        self.assertEqual(told(copy), (None, {"a": 2, "b": 1, "c": 3}, 5, [0, 2]))

    def test_a_copy_can_be_taken_back_likewise(self):
        run = begun(either((), ()), either((), ()), a=1)
        run.choose(0)
        run.choose(1)
        copy = run.copy().copy()
        copy.back()
        copy.back()
        self.assertEqual(told(copy), (("either", 2), {"a": 1}, 0, []))
        self.assertEqual(caught(copy.back), ("NothingDone",))
        self.assertEqual(run.chosen(), [0, 1])


class TryingTest(unittest.TestCase):
    def setUp(self):
        self.run_ = begun(either((add("a"),), (add("b"),)), either((add("a"),), (add("b"),)), loop("a", add("b")), a=1, b=1)
        self.run_.choose(0)
        self.before = told(self.run_)

    def tearDown(self):
        self.assertEqual(told(self.run_), self.before)
        self.run_.back()
        self.assertEqual(told(self.run_), (("either", 2), {"a": 1, "b": 1}, 0, []))
        self.assertEqual(caught(self.run_.back), ("NothingDone",))

    def test_what_action_returned_is_returned(self):
        def action(run):
            self.assertIs(run, self.run_)
            run.choose(0)
            run.choose(3)
            return told(run)
        self.assertEqual(self.run_.trying(action), (None, {"a": 3, "b": 4}, 8, [0, 0, 3]))
        self.assertIsNone(self.run_.trying(lambda run: None))

    def test_an_error_goes_on(self):
        def action(run):
            run.choose(1)
            raise NoName("why")
        with self.assertRaises(NoName) as error:
            self.run_.trying(action)
        self.assertEqual(error.exception.name, "why")
        with self.assertRaises(KeyboardInterrupt):
            self.run_.trying(lambda run: [run.choose(1), self.stopped()])
        self.assertEqual(caught(self.run_.trying, lambda run: [run.choose(1), run.choose(10 ** 9)]), ("BadChoice",))

    @staticmethod
    def stopped():
        raise KeyboardInterrupt()

    def test_action_goes_back_to_the_beginning(self):
        def action(run):
            run.back()
            run.choose(1)
            run.choose(1)
            return told(run)
        self.assertEqual(self.run_.trying(action), (("loop", 1), {"a": 1, "b": 3}, 2, [1, 1]))
        self.assertEqual(caught(self.run_.trying, lambda run: [run.back(), run.back()]), ("NothingDone",))

    def test_action_works_on_copies(self):
        def action(run):
            copy = run.copy()
            run.choose(1)
            copy.back()
            return copy
        copy = self.run_.trying(action)
        self.assertEqual(told(copy), (("either", 2), {"a": 1, "b": 1}, 0, []))
        copy.choose(1)
        self.assertEqual(copy.chosen(), [1])

    def test_action_tries_again_inside(self):
        def action(run):
            run.choose(1)
            inside = told(run)
            self.assertEqual(run.trying(lambda same: [same.back(), same.back(), same.choose(1)]), [None, None, None])
            self.assertEqual(told(run), inside)
            self.assertEqual(caught(run.trying, lambda same: [same.choose(2), same.choose(0)]), ("Over",))
            self.assertEqual(told(run), inside)
            run.back()
            return run.trying(lambda same: same.chosen())
        self.assertEqual(self.run_.trying(action), [0])

    def test_attributes_are_put_back_too(self):
        self.run_.trying(lambda run: run.choose(0))
        self.assertEqual((self.run_.choice, self.run_.steps), (("either", 2), 1))


if __name__ == "__main__":
    unittest.main()
