"""The ways of programs (2.4)."""

import unittest

from howhigh.programs import Program
from howhigh.ways import straight, ways

from helper import (add, become, call, caught, either, lift, loop, naive_block, naive_ways, odd_things, orders, program_p,
                    program_r, some_programs, term)

NAMES = ("a", "b")
R = [add("a", term(k)) for k in range(1, 8)]


def main_of(*statements, **bodies):
    return Program(NAMES, bodies, statements)


class WaysTest(unittest.TestCase):
    def test_the_example_of_the_document(self):
        self.assertEqual(ways(program_r()), [(0,), (1,)])

    def test_no_choice_at_all(self):
        for one in [program_p(), main_of(), main_of(R[0]), main_of(loop("a", either((), ()), orders((), ())))]:
            self.assertEqual(ways(one), [()])

    def test_all_numbers_of_blocks_and_orders(self):
        self.assertEqual(ways(main_of(either((), (), ()))), [(0,), (1,), (2,)])
        self.assertEqual(ways(main_of(orders((), ()))), [(0,), (1,)])
        self.assertEqual(ways(main_of(orders((), (), ()))), [(k,) for k in range(6)])

    def test_blocks_that_are_not_done_make_no_choices(self):
        inner = either((), (either((), ()),))
        self.assertEqual(ways(main_of(either((), (inner,)))), [(0,), (1, 0), (1, 1, 0), (1, 1, 1)])
        self.assertEqual(ways(main_of(either((inner,), ()), either((), ()))),
                         [(0, 0, 0), (0, 0, 1), (0, 1, 0, 0), (0, 1, 0, 1), (0, 1, 1, 0), (0, 1, 1, 1), (1, 0), (1, 1)])

    def test_choices_of_orders_stand_as_the_run_comes_to_them(self):
        one = main_of(orders((either((), (), ()),), (either((), ()),)))
        self.assertEqual(ways(one), [(0, k, m) for k in range(3) for m in range(2)] + [(1, m, k) for m in range(2) for k in range(3)])

    def test_calls_are_written_out(self):
        one = main_of(call("go"), either((call("to"),), ()), go=(either((), ()), call("to")),
                      to=(orders((), ()), loop("a", either((), ()))))
        self.assertEqual(ways(one), [(k, m, *behind) for k in range(2) for m in range(2) for behind in [(0, 0), (0, 1), (1,)]])

    def test_twenty_four_ways(self):
        self.assertEqual(len(ways(main_of(orders((), (), ()), either((), ()), either((), ())))), 24)

    def test_many_programs(self):
        for one in some_programs(21, 200):
            main = naive_block(one.names, one.bodies, list(one.bodies), one.main, False, [])
            self.assertEqual(ways(one), sorted(naive_ways(main)))

    def test_a_new_list_each_time(self):
        one = program_r()
        ways(one).clear()
        self.assertEqual(len(ways(one)), 2)


class StraightTest(unittest.TestCase):
    def test_rows_and_loops_as_they_stand(self):
        self.assertEqual(straight(program_p(), ()), program_p().main)
        rows = (become("a", term(2, b=1)), lift("a", 1, b=2), R[0])
        self.assertEqual(straight(main_of(*rows), ()), rows)
        self.assertEqual(straight(main_of(), ()), ())

    def test_the_blocks_of_the_way(self):
        self.assertEqual(straight(program_r(), (0,)), (("add", "x", ((1, (("a", 1),)),)),))
        self.assertEqual(straight(program_r(), (1,)), (("add", "b", ((1, (("a", 1),)),)),))
        one = main_of(R[0], either((R[1],), (R[2], either((R[3],), ()), R[4])), R[5])
        self.assertEqual(straight(one, (0,)), (R[0], R[1], R[5]))
        self.assertEqual(straight(one, (1, 0)), (R[0], R[2], R[3], R[4], R[5]))
        self.assertEqual(straight(one, (1, 1)), (R[0], R[2], R[4], R[5]))

    def test_the_order_of_the_way(self):
        one = main_of(orders((R[0], R[1]), (R[2],), (R[3],)), R[4])
        self.assertEqual([straight(one, (k,))[:-1] for k in range(6)],
                         [(R[0], R[1], R[2], R[3]), (R[0], R[1], R[3], R[2]), (R[2], R[0], R[1], R[3]),
                          (R[2], R[3], R[0], R[1]), (R[3], R[0], R[1], R[2]), (R[3], R[2], R[0], R[1])])

    def test_choices_in_orders_go_with_their_blocks(self):
        one = main_of(orders((either((R[0],), (R[1],)),), (either((R[2],), (R[3],), (R[4],)),)))
        self.assertEqual(straight(one, (0, 1, 2)), (R[1], R[4]))
        self.assertEqual(straight(one, (1, 2, 1)), (R[4], R[1]))

    def test_calls_in_loops_are_not_written_out(self):
        inner = loop("b", call("to"), either((call("to"),), ()))
        one = main_of(call("go"), loop("a", call("go")), go=(R[0], inner, call("to")), to=(R[1],))
        self.assertEqual(straight(one, ()), (R[0], inner, R[1], loop("a", call("go"))))

    def test_choices_in_called_bodies(self):
        one = main_of(call("go"), call("go"), go=(either((R[0],), (R[1], call("to"))),), to=(orders((R[2],), (R[3],)),))
        self.assertEqual(straight(one, (1, 1, 0)), (R[1], R[3], R[2], R[0]))

    def test_wrong_ways(self):
        one = main_of(either((), (either((), ()),)))
        for way in [(), (0, 0), (1,), (2,), (1, 2), (-1,), (1, 0, 0), [0], [1, 0], (True,), (False,), (1, True), (1, False), None,
                    "0", (None,), ((0,),), ("0",), 0, {}, {0: 0}, range(1), (10 ** 29,), (b"0",), ([],), (one,)]:
            self.assertEqual(caught(straight, one, way), ("BadWay",), way)

    def test_odd_things(self):
        for thing in odd_things():
            self.assertEqual(caught(straight, program_r(), thing), None if thing == (1,) and thing[0] is not True else ("BadWay",))
            self.assertEqual(caught(straight, program_p(), thing), None if thing == () else ("BadWay",), thing)
            right = type(thing) is int and thing in (0, 1)
            self.assertEqual(caught(straight, program_r(), (thing,)), None if right else ("BadWay",), thing)

    def test_each_way_of_many_programs_does_what_a_run_does(self):
        for one in some_programs(22, 100):
            main = naive_block(one.names, one.bodies, list(one.bodies), one.main, False, [])
            for way in ways(one):
                steps = [naive_step(one, step) for step in straight(one, way)]
                self.assertEqual(steps, list(naive_straight(main, list(way))))


def naive_step(program, step):
    """A step, its calls written out."""
    return naive_block(program.names, program.bodies, list(program.bodies), (step,), False, [])[0]


def naive_straight(block, way):
    """The rows and loops that a block, written out, does by a way; its choices are taken off the front of the way."""
    for statement in block:
        if statement[0] == "either":
            yield from naive_straight(statement[1][way.pop(0)], way)
        elif statement[0] == "orders":
            orders_of = {2: ["01", "10"], 3: ["012", "021", "102", "120", "201", "210"]}[len(statement[1])]
            for digit in orders_of[way.pop(0)]:
                yield from naive_straight(statement[1][int(digit)], way)
        else:
            yield statement


if __name__ == "__main__":
    unittest.main()
