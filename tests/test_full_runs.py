"""Full runs (3.4)."""

import random
import unittest

from howhigh.fullruns import full_run
from howhigh.programs import Program
from howhigh.runs import played
from howhigh.ways import ways

from helper import (add, become, call, caught, either, lift, loop, naive_block, naive_ways, odd_things, orders, program_p,
                    program_r, some_programs, some_starts, term)

MOST = 10 ** 1000


def full_choices(program, way, starts):
    """The choices of the full run, told again: by played, choice by choice, and the ways of each block."""
    chosen = []

    def follow(block, ahead):
        for statement in block:
            if statement[0] == "loop":
                chosen.append(None)
                chosen[-1] = numbers_now()[statement[1]]
                turns = sorted(naive_ways(statement[2]))
                for number in range(chosen[-1]):
                    follow(statement[2], list(turns[number % len(turns)]))
            elif statement[0] == "either":
                chosen.append(ahead.pop(0))
                follow(statement[1][chosen[-1]], ahead)
            elif statement[0] == "orders":
                chosen.append(ahead.pop(0))
                every = {2: ["01", "10"], 3: ["012", "021", "102", "120", "201", "210"]}[len(statement[1])]
                for digit in every[chosen[-1]]:
                    follow(statement[1][int(digit)], ahead)
            else:
                do_row(*statement)

    numbers = dict(starts)

    def numbers_now():
        return numbers

    def do_row(word, name, content):
        terms = [content] if word == "lift" else content
        worth = 0
        for coefficient, product in terms:
            for other, power in product:
                coefficient *= numbers[other] ** power
            worth += coefficient
        numbers[name] = {"add": numbers[name] + worth, "set": worth, "lift": max(numbers[name], worth)}[word]

    follow(naive_block(program.names, program.bodies, list(program.bodies), program.main, False, []), list(way))
    return numbers, chosen


class FullRunTest(unittest.TestCase):
    def test_the_example_of_the_document(self):
        self.assertEqual(full_run(program_p(), (), {"a": 3, "b": 1, "x": 1}), ({"a": 3, "b": 4, "x": 7}, [3]))

    def test_the_answer_is_a_pair_of_a_dict_and_a_list(self):
        starts = {"a": 2, "b": 3, "x": 1}
        found = full_run(program_r(), (1,), starts)
        self.assertEqual((type(found), type(found[0]), type(found[1])), (tuple, dict, list))
        self.assertEqual(found, ({"a": 2, "b": 5, "x": 1}, [1]))
        found[0]["a"] = 9
        self.assertEqual(starts, {"a": 2, "b": 3, "x": 1})
        self.assertEqual(full_run(program_r(), (0,), starts), ({"a": 2, "b": 3, "x": 3}, [0]))

    def test_no_choice_at_all(self):
        one = Program(("a",), {}, (add("a"), become("a", term(2, a=1)), lift("a", 1, a=2)))
        self.assertEqual(full_run(one, (), {"a": 1}), ({"a": 16}, []))

    def test_rounds_take_the_ways_of_the_block_in_turn(self):
        rows = [(add("b", term(10 ** 0)),), (add("b", term(3)),), (add("b", term(9)),)]
        one = Program(("a", "b"), {}, (loop("a", either(*rows)),))
        for rounds, value in [(1, 1), (2, 4), (3, 13), (4, 14), (5, 17), (7, 27)]:
            self.assertEqual(full_run(one, (), {"a": rounds, "b": 1}),
                             ({"a": rounds, "b": 1 + value}, [rounds] + [k % 3 for k in range(rounds)]))

    def test_more_ways_than_rounds(self):
        one = Program(("a",), {}, (loop("a", orders((), (), ()), either((), (either((), ()),))),))
        self.assertEqual(full_run(one, (), {"a": 5})[1], [5, 0, 0, 0, 1, 0, 0, 1, 1, 1, 0, 1, 1, 0])

    def test_rounds_are_counted_anew_each_time_a_loop_begins(self):
        inner = loop("b", either((), ()))
        one = Program(("a", "b"), {}, (loop("a", inner), inner))
        self.assertEqual(full_run(one, (), {"a": 2, "b": 3})[1], [2, 3, 0, 1, 0, 3, 0, 1, 0, 3, 0, 1, 0])

    def test_ways_of_the_block_stand_outside_its_loops(self):
        one = Program(("a", "b"), {}, (loop("a", either((), ()), loop("b", either((), (), ())), either((), ())),))
        self.assertEqual(full_run(one, (), {"a": 3, "b": 2})[1], [3, 0, 2, 0, 1, 0, 0, 2, 0, 1, 1, 1, 2, 0, 1, 0])

    def test_the_way_is_for_what_stands_outside_loops(self):
        one = Program(("a",), {"go": (either((), ()),)}, (call("go"), loop("a", call("go")), orders((call("go"),), ())))
        self.assertEqual(full_run(one, (1, 1, 0), {"a": 3}), ({"a": 3}, [1, 3, 0, 1, 0, 1, 0]))

    def test_all_rounds_as_they_are_when_the_loop_begins(self):
        one = Program(("a",), {}, (loop("a", add("a")), loop("a", add("a"))))
        self.assertEqual(full_run(one, (), {"a": 3}), ({"a": 12}, [3, 6]))

    def test_many_full_runs(self):
        rng = random.Random(61)
        told = 0
        for one in some_programs(61, 250):
            starts = some_starts(rng, one, 3)
            for way in ways(one)[:4]:
                if caught(full_run, one, way, starts) is None:
                    told += 1
                    found = full_run(one, way, starts)
                    self.assertEqual(found, full_choices(one, way, starts))
                    self.assertEqual(played(one, starts, found[1]), found[0])
                else:
                    self.assertEqual(caught(full_run, one, way, starts), ("TooLong",))
        self.assertGreater(told, 200)


class ErrorsTest(unittest.TestCase):
    def test_ten_thousand_steps_and_one_more(self):
        one = Program(("a", "b"), {}, (loop("a", either((), ())), loop("b", add("b"))))
        self.assertEqual(full_run(one, (), {"a": 9998, "b": 1})[0], {"a": 9998, "b": 2})
        self.assertEqual(caught(full_run, one, (), {"a": 9999, "b": 1}), ("TooLong",))
        self.assertEqual(caught(full_run, one, (), {"a": 10 ** 29, "b": 1}), ("TooLong",))
        empty = Program(("a",), {}, (loop("a"),))
        self.assertEqual(full_run(empty, (), {"a": 10000}), ({"a": 10000}, [10000]))
        self.assertEqual(caught(full_run, empty, (), {"a": 10001}), ("TooLong",))

    def test_the_greatest_number_and_one_more(self):
        one = Program(("a",), {}, (either((add("a"),), (add("a", term(2)),)),))
        self.assertEqual(full_run(one, (0,), {"a": MOST - 1}), ({"a": MOST}, [0]))
        self.assertEqual(caught(full_run, one, (1,), {"a": MOST - 1}), ("TooLong",))
        inside = Program(("a", "b"), {}, (loop("b", add("a", term(9, a=1))),))
        self.assertEqual(full_run(inside, (), {"a": 1, "b": 1000}), ({"a": MOST, "b": 1000}, [1000]))
        self.assertEqual(caught(full_run, inside, (), {"a": 2, "b": 1000}), ("TooLong",))
        self.assertEqual(caught(full_run, inside, (), {"a": 1, "b": 1001}), ("TooLong",))

    def test_ways_come_first_then_starts(self):
        one = Program(("a",), {}, (add("a"), either((), ())))
        for way, starts, error in [((2,), {}, "BadWay"), (None, {"a": MOST}, "BadWay"), ((True,), {"a": 1}, "BadWay"),
                                   ([0], {"a": 1}, "BadWay"), ((0,), {}, "BadStarts"), ((0,), {"a": 0}, "BadStarts"),
                                   ((0,), {"a": MOST, "b": 1}, "BadStarts"), ((0,), {"a": MOST}, "TooLong")]:
            self.assertEqual(caught(full_run, one, way, starts), (error,))

    def test_odd_things(self):
        starts = {"a": 1, "b": 1, "x": 1}
        for thing in odd_things():
            self.assertEqual(caught(full_run, program_p(), thing, starts), None if thing == () else ("BadWay",), thing)
            self.assertEqual(caught(full_run, program_r(), (thing,), starts),
                             None if type(thing) is int and thing in (0, 1) else ("BadWay",), thing)
            self.assertEqual(caught(full_run, program_p(), (), thing), ("BadStarts",), thing)
            self.assertEqual(caught(full_run, program_p(), (), {**starts, "b": thing}),
                             None if type(thing) is int and thing > 0 else ("BadStarts",), thing)


if __name__ == "__main__":
    unittest.main()
