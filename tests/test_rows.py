"""The rows of programs (2.3)."""

import itertools
import unittest

from howhigh.errors import BadRows
from howhigh.programs import Program, rows, without_rows

from helper import add, become, call, caught, either, lift, loop, odd_things, orders, some_programs, term

NAMES = ("a", "b")
R = [add("a", term(k)) for k in range(1, 8)]
SET = become("b", term(1, a=1))


def sample():
    bodies = {"to": (loop("a", R[4]), R[5]), "go": (either((R[2],), (call("to"),)), R[3])}
    return Program(NAMES, bodies, (R[0], either((SET,), (orders((loop("b", R[1], call("go")),), (lift("b", 2, a=1),)),))))


class RowsTest(unittest.TestCase):
    def test_rows_of_main_stand_first_then_those_of_the_bodies(self):
        self.assertEqual(rows(sample()), [R[0], SET, R[1], lift("b", 2, a=1), R[2], R[3], R[4], R[5]])

    def test_bodies_that_are_not_called_or_often_are_told_once(self):
        one = Program(NAMES, {"b": (R[1],), "a": (R[0], R[0])}, (call("b"), call("b")))
        self.assertEqual(rows(one), [R[0], R[0], R[1]])

    def test_no_rows(self):
        self.assertEqual(rows(Program(NAMES, {"go": ()}, (loop("a", call("go")), either((), ())))), [])

    def test_a_new_list_each_time(self):
        one = sample()
        rows(one).clear()
        self.assertEqual(len(rows(one)), 8)


class WithoutRowsTest(unittest.TestCase):
    def test_rows_go_in_all_places(self):
        found = without_rows(sample(), [0, 2, 4, 7])
        bodies = {"to": (loop("a", R[4]),), "go": (either((), (call("to"),)), R[3])}
        main = (either((SET,), (orders((loop("b", call("go")),), (lift("b", 2, a=1),)),)),)
        self.assertTrue(found == Program(NAMES, bodies, main))

    def test_nothing_goes(self):
        for numbers in [(), []]:
            self.assertTrue(without_rows(sample(), numbers) == sample())

    def test_equal_rows_are_told_apart_by_their_numbers(self):
        one = Program(NAMES, {"go": (R[0],)}, (R[0], loop("a", R[0]), R[0], call("go")))
        self.assertEqual(without_rows(one, (1,)).main, (R[0], loop("a"), R[0], call("go")))
        self.assertEqual(without_rows(one, (2,)).main, (R[0], loop("a", R[0]), call("go")))
        self.assertEqual(without_rows(one, (3,)).bodies, {"go": ()})
        self.assertEqual(without_rows(one, (0, 1, 2, 3)).main, (loop("a"), call("go")))

    def test_the_program_stays_and_so_do_the_numbers(self):
        one, numbers = sample(), [0, 3]
        without_rows(one, numbers)
        self.assertTrue(one == sample())
        self.assertEqual(numbers, [0, 3])

    def test_wrong_rows(self):
        one = sample()
        for numbers in [[1], (0, 1), [8], [-1], [0, 0], [2, 0], (3, 2), [True], [False], [0, None], ["0"], [(0,)], [[0]],
                        [0, 10 ** 29], [-10 ** 29], [0, 2, 2], [b"0"], [{}], [one]]:
            with self.assertRaises(BadRows, msg=numbers):
                without_rows(one, numbers)
            self.assertEqual(caught(without_rows, one, tuple(numbers)), ("BadRows",))

    def test_odd_things(self):
        one = sample()
        for thing in odd_things():
            right = isinstance(thing, (list, tuple)) and all(type(item) is int for item in thing) \
                and list(thing) == sorted(set(thing)) and all(item in (0, 2, 3, 4, 5, 6, 7) for item in thing)
            self.assertEqual(caught(without_rows, one, thing), None if right else ("BadRows",), thing)
            self.assertEqual(caught(without_rows, one, [thing]), None if type(thing) is int and thing in (0, 2, 3) else ("BadRows",))

    def test_what_is_left_is_what_rows_tells(self):
        for one in some_programs(17, 60):
            every = rows(one)
            may_go = [k for k, row in enumerate(every) if row[0] != "set"]
            for gone in itertools.chain(itertools.combinations(may_go[:6], 1), itertools.combinations(may_go[:6], 2)):
                left = rows(without_rows(one, gone))
                self.assertEqual(left, [row for k, row in enumerate(every) if k not in gone])


if __name__ == "__main__":
    unittest.main()
