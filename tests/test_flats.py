"""Flat rows, parts and those that double (section 4)."""

import copy
import random
import unittest

from helper import (add, all_statements, call, either, handed, inner_blocks, lift, loop, naive_block, naive_doubling, naive_parts, orders,
                    product, program_p, some_flat, some_programs, term)
from howhigh.flats import doubling, flat, parts
from howhigh.programs import Program
from howhigh.ways import straight, ways


def flat_of(*statements, bodies=None, name="a"):
    """The flat rows of a loop of these statements."""
    program = Program(("a", "b", "x", "y"), bodies or {}, (loop(name, *statements),))
    return flat(program, straight(program, ())[0])


def naive_flat(program, step):
    """The flat rows of a loop, told once more: all terms gathered one by one with the loops around them."""
    gathered = []

    def gather(block, around):
        for statement in block:
            if statement[0] == "add":
                for c, one in statement[2]:
                    powers = dict(one)
                    for name in around:
                        powers[name] = powers.get(name, 0) + 1
                    gathered.append(("add", statement[1], c, product(**powers)))
            if statement[0] == "lift":
                gathered.append(("lift", statement[1], *statement[2]))
            for inner in inner_blocks(statement):
                gather(inner, around + [statement[1]] * (statement[0] == "loop"))

    gather(naive_block(program.names, program.bodies, list(program.bodies), step[2], True, []), [])
    found = set()
    for word, name, _, one in gathered:
        alike = [row[2] for row in gathered if (row[0], row[1], row[3]) == (word, name, one)]
        found.add((word, name, sum(alike) if word == "add" else max(alike), one))
    return tuple(sorted(found))


class FlatTest(unittest.TestCase):
    def test_the_example_of_the_document(self):
        p = program_p()
        self.assertEqual(flat(p, straight(p, ())[0]), (("add", "b", 1, ()), ("add", "x", 1, (("b", 1),))))

    def test_each_term_of_an_add_row_is_one_and_a_lift_row_is_one(self):
        self.assertEqual(flat_of(add("x", term(2), term(3, b=1), term(1, b=2)), lift("b", 4, x=1, y=1)),
                         (("add", "x", 1, (("b", 2),)), ("add", "x", 2, ()), ("add", "x", 3, (("b", 1),)),
                          ("lift", "b", 4, (("x", 1), ("y", 1)))))

    def test_no_rows(self):
        self.assertEqual(flat_of(), ())
        self.assertEqual(flat_of(either((), ()), loop("b")), ())

    def test_like_add_rows_are_summed_and_of_like_lift_rows_the_greatest_stays(self):
        self.assertEqual(flat_of(add("x", term(2, b=1)), add("x", term(9, b=1)), add("x", term(9, b=1))), (("add", "x", 20, (("b", 1),)),))
        self.assertEqual(flat_of(lift("x", 2, b=1), lift("x", 7, b=1), lift("x", 3, b=1)), (("lift", "x", 7, (("b", 1),)),))
        self.assertEqual(flat_of(add("x", term(2, b=1)), lift("x", 3, b=1), add("b", term(1, b=1)), add("x", term(1, b=2))),
                         (("add", "b", 1, (("b", 1),)), ("add", "x", 1, (("b", 2),)), ("add", "x", 2, (("b", 1),)),
                          ("lift", "x", 3, (("b", 1),))))

    def test_rows_of_an_inner_loop(self):
        self.assertEqual(flat_of(loop("b", add("x", term(1, b=1, y=1), term(2, y=1)), lift("y", 2, x=1)), add("x", term(3, b=1, y=1))),
                         (("add", "x", 1, (("b", 2), ("y", 1))), ("add", "x", 5, (("b", 1), ("y", 1))),
                          ("lift", "y", 2, (("x", 1),))))
        self.assertEqual(flat_of(loop("x", add("x"))), (("add", "x", 1, (("x", 1),)),))
        self.assertEqual(flat_of(loop("b", add("x", term(1, x=3)))), (("add", "x", 1, (("b", 1), ("x", 3))),))

    def test_the_own_name_of_the_loop_does_not_stand_in_by_this(self):
        self.assertEqual(flat_of(add("x"), name="b"), (("add", "x", 1, ()),))
        self.assertEqual(flat_of(loop("b", add("x")), name="b"), (("add", "x", 1, (("b", 1),)),))

    def test_all_blocks_of_either_and_orders_count(self):
        self.assertEqual(flat_of(either((add("x"),), (add("x"), orders((add("x"),), (loop("b", add("x")),)))), lift("y", 1)),
                         (("add", "x", 1, (("b", 1),)), ("add", "x", 3, ()), ("lift", "y", 1, ())))

    def test_calls_are_written_out(self):
        bodies = {"do": (add("x"), call("it"), loop("y", call("it"))), "it": (add("b", term(2, a=1)),)}
        self.assertEqual(flat_of(call("do"), call("do"), loop("b", call("it")), bodies=bodies),
                         (("add", "b", 2, (("a", 1), ("b", 1))), ("add", "b", 4, (("a", 1),)),
                          ("add", "b", 4, (("a", 1), ("y", 1))), ("add", "x", 2, ())))

    def test_loops_by_a_way(self):
        inner = (loop("b", add("y")),)
        program = Program(("a", "b", "x", "y"), {"do": inner}, (either((call("do"),), (loop("x", add("a"), call("do")),)),))
        self.assertEqual(flat(program, straight(program, (0,))[0]), (("add", "y", 1, ()),))
        self.assertEqual(flat(program, straight(program, (1,))[0]), (("add", "a", 1, ()), ("add", "y", 1, (("b", 1),))))

    def test_against_the_second_telling(self):
        seen = 0
        for program in some_programs(41, 300, 4):
            for way in ways(program)[:3]:
                for step in straight(program, way):
                    if step[0] == "loop":
                        kept = copy.deepcopy(step)
                        found = flat(program, step)
                        self.assertEqual(found, naive_flat(program, step))
                        self.assertEqual(found, tuple(sorted(set(found))))
                        self.assertEqual(step, kept)
                        self.assertTrue(all(type(row) is tuple and type(row[3]) is tuple for row in found))
                        seen += len(list(all_statements(step[2]))) > 2
        self.assertGreater(seen, 30)


class PartsTest(unittest.TestCase):
    def test_the_example_of_the_document(self):
        rows = (("add", "x", 1, (("b", 1),)), ("lift", "b", 1, (("x", 1),)))
        self.assertEqual(doubling(("b", "x"), rows), [("b", "x")])
        self.assertEqual(parts(("b", "x"), rows), [("b", "x")])

    def test_no_flat_rows(self):
        self.assertEqual(parts(("a", "b", "x"), ()), [("a",), ("b",), ("x",)])
        self.assertEqual(doubling(("a",), ()), [])

    def test_names_as_a_list(self):
        rows = (("lift", "a", 2, (("x", 1),)), ("lift", "x", 1, (("a", 1),)))
        self.assertEqual(parts(["a", "b", "x"], rows), [("a", "x"), ("b",)])
        self.assertEqual(doubling(["a", "b", "x"], rows), [("a", "x")])

    def test_the_least_part_whose_givers_are_there_comes_first(self):
        rows = (("add", "a", 1, (("y", 1),)), ("add", "b", 1, (("x", 1),)))
        self.assertEqual(parts(("a", "b", "c", "x", "y"), rows), [("c",), ("x",), ("b",), ("y",), ("a",)])
        chain = (("add", "a", 1, (("b", 1),)), ("lift", "b", 1, (("c", 1),)), ("lift", "c", 1, (("d", 2),)))
        self.assertEqual(parts(("a", "b", "c", "d", "x"), chain), [("d",), ("c",), ("b",), ("a",), ("x",)])

    def test_rings_by_other_names(self):
        ring = (("lift", "a", 1, (("b", 1),)), ("lift", "b", 1, (("c", 1), ("y", 1))), ("lift", "c", 1, (("a", 1),)),
                ("lift", "x", 1, (("a", 1),)))
        self.assertEqual(parts(("a", "b", "c", "x", "y"), ring), [("y",), ("a", "b", "c"), ("x",)])
        self.assertEqual(doubling(("a", "b", "c", "x", "y"), ring), [("a", "b", "c")])

    def test_what_makes_a_part_double(self):
        for row, doubles in [(("lift", "x", 1, (("x", 1),)), False), (("lift", "x", 2, (("x", 1),)), True),
                             (("lift", "x", 1, (("x", 2),)), True), (("lift", "x", 1, (("a", 1), ("x", 1))), True),
                             (("add", "x", 1, (("x", 1),)), True), (("add", "x", 1, (("a", 1), ("x", 1))), True),
                             (("add", "x", 1, ()), False), (("lift", "x", 9, ()), False), (("add", "x", 9, (("a", 2),)), False),
                             (("lift", "x", 9, (("a", 2),)), False), (("lift", "a", 9, (("x", 2),)), False)]:
            self.assertEqual(doubling(("a", "x"), (row,)), [("x",)] if doubles else [], row)
        back = ("lift", "a", 1, (("x", 1),))
        for row, doubles in [(("lift", "x", 1, (("a", 1),)), False), (("lift", "x", 2, (("a", 1),)), True),
                             (("lift", "x", 1, (("a", 2),)), True), (("lift", "x", 1, (("a", 1), ("b", 1))), True),
                             (("add", "x", 1, (("a", 1),)), True)]:
            self.assertEqual(doubling(("a", "b", "x"), (row, back)), [("a", "x")] if doubles else [], row)
            self.assertIn(("a", "x"), parts(("a", "b", "x"), (row, back)))

    def test_doubling_parts_stand_in_the_order_of_parts(self):
        rows = (("add", "a", 1, (("a", 1), ("y", 1))), ("add", "b", 1, (("b", 1),)), ("add", "y", 1, (("y", 1),)))
        self.assertEqual(parts(("a", "b", "y"), rows), [("b",), ("y",), ("a",)])
        self.assertEqual(doubling(("a", "b", "y"), rows), [("b",), ("y",), ("a",)])

    def test_against_the_second_telling(self):
        rng = random.Random(42)
        seen = 0
        for _ in range(1500):
            names, rows = some_flat(rng, 6, 8)
            kept = copy.deepcopy((names, rows))
            self.assertEqual(parts(names, rows), naive_parts(names, rows))
            self.assertEqual(doubling(names, rows), naive_doubling(names, rows))
            self.assertEqual((names, rows), kept)
            seen += bool(doubling(names, rows)) and len(handed(rows)) > 6
        self.assertGreater(seen, 100)

    def test_each_answer_is_new(self):
        rows = (("add", "x", 1, (("x", 1),)),)
        for action in [parts, doubling]:
            first = action(("a", "x"), rows)
            first.clear()
            self.assertIn(("x",), action(("a", "x"), rows))
            self.assertIsInstance(action(("a", "x"), rows), list)


if __name__ == "__main__":
    unittest.main()
