"""Loop trees and loop heights (section 6)."""

import copy
import itertools
import random
import unittest

from helper import (naive_calm, naive_is_tree, naive_lean, naive_loop_products, odd_things, product, program_p, replaced, some_flat,
                    told_tree_product)
from howhigh.flats import flat
from howhigh.hulls import below
from howhigh.looppapers import loop_paper
from howhigh.looptrees import is_loop_tree, loop_heights, loop_product
from howhigh.ways import straight

BEGIN = ("begin",)
NAMES = ("x", "y", "z")
# The numbers of the rows: 0 adds x * y ^ 2 to x, 1 adds 2 to y, 2 lifts y to z, 3 lifts z to 3 * y * z.
ROWS = (("add", "x", 1, (("x", 1), ("y", 2))), ("add", "y", 2, ()), ("lift", "y", 1, (("z", 1),)), ("lift", "z", 3, (("y", 1), ("z", 1))))


def some_tree(rng, rows, name, deep):
    numbers = [k for k, row in enumerate(rows) if row[1] == name]
    if not numbers or deep == 0 or rng.randint(0, 3) == 0:
        return BEGIN
    number = rng.choice(numbers)
    return ("row", number, tuple(some_tree(rng, rows, other, deep - 1) for other, _ in rows[number][3]))


class TreesTest(unittest.TestCase):
    def judged(self, name, thing):
        found = is_loop_tree(NAMES, ROWS, name, thing)
        self.assertIs(found, naive_is_tree(ROWS, name, thing), thing)
        return found

    def test_begin(self):
        for name in NAMES:
            self.assertTrue(self.judged(name, BEGIN))
            self.assertEqual(loop_product(NAMES, ROWS, name, BEGIN), ((name, 1),))
        for thing in [("begin", 1), "begin", ["begin"], ("Begin",), (), ("row",), ("begin", ())]:
            self.assertFalse(self.judged("x", thing))

    def test_rows(self):
        self.assertTrue(self.judged("y", ("row", 1, ())))
        self.assertEqual(loop_product(NAMES, ROWS, "y", ("row", 1, ())), (("#", 1),))
        self.assertTrue(self.judged("y", ("row", 2, (BEGIN,))))
        self.assertEqual(loop_product(NAMES, ROWS, "y", ("row", 2, (BEGIN,))), (("z", 1),))
        tree = ("row", 0, (("row", 0, (BEGIN, ("row", 1, ()))), ("row", 2, (("row", 3, (BEGIN, BEGIN)),))))
        self.assertTrue(self.judged("x", tree))
        # "#" for the outer row, x * "#" ^ 2 * "#" for the inner one, and y * z to the power 2.
        self.assertEqual(loop_product(NAMES, ROWS, "x", tree), (("#", 4), ("x", 1), ("y", 2), ("z", 2)))

    def test_wrong_rows(self):
        for name, thing in [("x", ("row", 1, ())), ("y", ("row", 0, (BEGIN, BEGIN))), ("y", ("row", 1, (BEGIN,))), ("y", ("row", 2, ())),
                            ("x", ("row", 0, (BEGIN,))), ("x", ("row", 0, (BEGIN, BEGIN, BEGIN))), ("x", ("row", -4, (BEGIN, BEGIN))),
                            ("x", ("row", 4, ())), ("y", ("row", True, ())), ("x", ("row", False, (BEGIN, BEGIN))), ("y", ("row", 1, [])),
                            ("y", ["row", 1, ()]), ("y", ("row", 1)), ("y", ("row", 1, (), ())), ("y", ("Row", 1, ())), ("y", (b"row", 1, ())),
                            ("y", ("row", "1", ())), ("y", ("row", None, ())), ("x", ("row", 0, [BEGIN, BEGIN])),
                            ("x", ("row", 0, (("row", 1, ()), BEGIN))), ("x", ("row", 0, (BEGIN, ("row", 0, (BEGIN, BEGIN)))))]:
            self.assertFalse(self.judged(name, thing), thing)
        self.assertFalse(is_loop_tree(("x",), (), "x", ("row", 0, ())))
        self.assertTrue(is_loop_tree(["x"], (), "x", BEGIN))

    def test_odd_objects_in_each_place(self):
        tree = ("row", 0, (BEGIN, ("row", 2, (("row", 3, (("row", 1, ()), BEGIN)),))))
        self.assertTrue(self.judged("x", tree))
        for odd in odd_things():
            for thing in replaced(tree, odd):
                self.judged("x", thing)

    def test_deep_trees(self):
        tree = BEGIN
        for _ in range(60):
            tree = ("row", 0, (tree, BEGIN))
        self.assertTrue(self.judged("x", tree))
        self.assertEqual(loop_product(NAMES, ROWS, "x", tree), (("#", 60), ("x", 1), ("y", 120)))
        rows = (("lift", "x", 1, (("x", 4),)),)
        tree = BEGIN
        for _ in range(60):
            tree = ("row", 0, (tree,))
        self.assertTrue(is_loop_tree(("x",), rows, "x", tree))
        self.assertEqual(loop_product(("x",), rows, "x", tree), (("x", 4 ** 60),))
        wrong = ("row", 0, ())
        for _ in range(59):
            wrong = ("row", 0, (wrong, wrong))
        self.assertFalse(is_loop_tree(NAMES, ROWS, "x", wrong))

    def test_random_trees(self):
        rng = random.Random(61)
        verdicts = [0, 0]
        for _ in range(1500):
            names, rows = some_flat(rng, 4, 6, 3)
            name = rng.choice(names)
            tree = some_tree(rng, rows, name, 4)
            self.assertIs(is_loop_tree(names, rows, name, tree), True)
            self.assertEqual(loop_product(names, rows, name, tree), told_tree_product(rows, name, tree))
            other = rng.choice(names)
            found = is_loop_tree(names, rows, other, tree)
            self.assertIs(found, naive_is_tree(rows, other, tree))
            verdicts[found] += 1
        self.assertGreater(min(verdicts), 100)


class LoopHeightsTest(unittest.TestCase):
    def test_the_example_program(self):
        p = program_p()
        found = loop_heights(p.names, flat(p, straight(p, ())[0]))
        self.assertEqual(found, {"a": (product(a=1),), "b": ((("#", 1),), product(b=1)), "x": ((("#", 1), ("b", 1)), (("#", 2),), product(x=1))})

    def test_no_flat_rows(self):
        self.assertEqual(loop_heights(["a", "x"], ()), {"a": (product(a=1),), "x": (product(x=1),)})

    def test_parts_that_double_and_those_given_from_them(self):
        rows = (("add", "a", 1, (("x", 1),)), ("add", "x", 1, (("x", 1),)), ("lift", "c", 1, (("a", 1),)), ("add", "d", 1, (("b", 2),)))
        self.assertEqual(loop_heights(("a", "b", "c", "d", "x"), rows),
                         {"a": None, "b": (product(b=1),), "c": None, "d": ((("#", 1), ("b", 2)), product(d=1)), "x": None})
        for row in [("lift", "x", 2, (("x", 1),)), ("lift", "x", 1, (("x", 2),)), ("lift", "x", 1, (("x", 1), ("y", 1))), ("add", "x", 1, (("x", 1),))]:
            self.assertEqual(loop_heights(("x", "y"), (row,)), {"x": None, "y": (product(y=1),)})
        self.assertEqual(loop_heights(("x", "y"), (("lift", "x", 1, (("x", 1),)),)), {"x": (product(x=1),), "y": (product(y=1),)})

    def test_rings_of_lifts_share_their_heights(self):
        rows = (("add", "y", 3, ()), ("lift", "x", 1, (("y", 1),)), ("lift", "y", 1, (("z", 1),)), ("lift", "z", 1, (("x", 1),)))
        every = ((("#", 1),), product(x=1), product(y=1), product(z=1))
        self.assertEqual(loop_heights(NAMES, rows), {"x": every, "y": every, "z": every})

    def test_constants(self):
        self.assertEqual(loop_heights(("x",), (("add", "x", 9, ()),)), {"x": ((("#", 1),), product(x=1))})
        self.assertEqual(loop_heights(("x",), (("lift", "x", 9, ()),)), {"x": (product(x=1),)})

    def test_powers_and_chains(self):
        rows = (("add", "a", 1, ()), ("add", "b", 1, (("a", 3),)), ("lift", "x", 1, (("a", 1), ("b", 2))))
        found = loop_heights(("a", "b", "x"), rows)
        self.assertEqual(found["b"], ((("#", 1), ("a", 3)), (("#", 4),), product(b=1)))
        self.assertEqual(found["x"], naive_lean(below, [(("#", 2), ("a", 7)), (("#", 9),), product(a=1, b=2), (("#", 1), ("b", 2)),
                                                        (("#", 8), ("a", 1)), (("#", 3), ("a", 6)), product(x=1)]))

    def test_against_all_loop_trees(self):
        rng = random.Random(62)
        calm_ones = 0
        for _ in range(1200):
            names, rows = some_flat(rng, 4, 5, 2)
            kept = copy.deepcopy((names, rows))
            found = loop_heights(names, rows)
            self.assertEqual((names, rows), kept)
            self.assertEqual(set(found), set(names))
            calm = naive_calm(names, rows)
            self.assertEqual([name for name in names if found[name] is not None], calm)
            if calm:
                calm_rows = tuple(row for row in rows if row[1] in calm)
                products = naive_loop_products(calm, calm_rows, 300)
                if products is not None:
                    calm_ones += 1
                    for name in calm:
                        self.assertEqual(found[name], naive_lean(below, products[name]), (names, rows, name))
        self.assertGreater(calm_ones, 800)

    def test_a_name_with_none_has_trees_without_end(self):
        rng = random.Random(63)
        for _ in range(300):
            names, rows = some_flat(rng, 3, 3, 2)
            found = loop_heights(names, rows)
            if None in found.values():
                # A lift with another coefficient than 1 doubles, but its products do not.
                plain = all(row[0] == "add" or row[2] == 1 for row in rows)
                self.assertTrue(not plain or naive_loop_products(names, rows, 40) is None, (names, rows))

    def test_the_products_of_the_loop_paper_lie_below(self):
        rng = random.Random(64)
        for _ in range(300):
            names, rows = some_flat(rng, 4, 5, 2)
            paper = loop_paper(names, rows)
            found = loop_heights(names, rows)
            if max([0] + [len(terms) for _, terms in paper]) > 60:
                continue
            for part, terms in paper:
                for name in part:
                    self.assertTrue(all(below(one, [other for _, other in terms]) for one in found[name]))
                    self.assertTrue(all(below(one, found[name]) for _, one in terms))

    def test_all_small_sets_of_rows(self):
        products = [(), (("a", 1),), (("b", 1),), (("a", 1), ("b", 1)), (("b", 2),)]
        every = [(word, name, c, one) for word in ("add", "lift") for name in "ab" for c in (1, 2) for one in products]
        for rows in itertools.combinations(every, 2):
            if len({(word, name, one) for word, name, _, one in rows}) == 2:
                found = loop_heights(("a", "b"), rows)
                calm = naive_calm(("a", "b"), rows)
                self.assertEqual([name for name in "ab" if found[name] is not None], calm)
                told = naive_loop_products(calm, [row for row in rows if row[1] in calm], 100)
                for name in calm:
                    self.assertEqual(found[name], naive_lean(below, told[name]))

    def test_each_dict_is_new(self):
        first = loop_heights(("a",), ())
        first["a"] = None
        self.assertEqual(loop_heights(("a",), ()), {"a": (product(a=1),)})


if __name__ == "__main__":
    unittest.main()
