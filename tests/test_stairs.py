"""Stairs (section 9)."""

import copy
import random
import unittest

from helper import (WayRun, add, become, caught, chosen_products, either, lift, loop, loopy_programs, mutated, naive_is_loop_paper,
                    naive_product_over, naive_value, odd_things, product, program_p, program_r, replaced, some_programs, some_starts,
                    steps_and_flats, term, terms_in)
from howhigh.errors import TooLong
from howhigh.fullruns import full_run
from howhigh.heights import heights
from howhigh.hulls import below
from howhigh.looppapers import is_loop_paper
from howhigh.programs import Program
from howhigh.stairs import is_stairs, stairs
from howhigh.ways import ways

A, B, X, Y = product(a=1), product(b=1), product(x=1), product(y=1)


def made(*main, bodies=None):
    return Program(("a", "b", "x", "y"), bodies or {}, main)


def doubled(name="x", by="a"):
    return loop(by, add(name, term(1, **{name: 1})))


def naive_is_bound(names, thing):
    return type(thing) is tuple and len(thing) == 2 and type(thing[0]) is int and thing[0] >= 1 and type(thing[1]) is tuple \
        and len(thing[1]) >= 1 and all(naive_product_over(names, one) for one in thing[1])


def told_covers(bound, terms, ahead):
    """Whether the bound covers those of the terms, by the words of 9.1."""
    factor = 0
    for c, one in terms:
        for name, power in one:
            c *= ahead[name][0] ** power
        factor += c
        sets = {name: ahead[name][1] for name, _ in one}
        if not all(below(worth, bound[1]) for worth in chosen_products(one, sets)):
            return False
    return factor <= bound[0]


def told_is_stairs(program, way, thing):
    """Whether they are stairs, by the words of 9.2."""
    steps, flats = steps_and_flats(program, way)
    names = program.names
    if type(thing) is not tuple or len(thing) != 2 or type(thing[0]) is not tuple or type(thing[1]) is not tuple:
        return False
    bounds, papers = thing
    if len(bounds) != len(steps) + 1 or len(papers) != len(steps):
        return False
    for found in bounds:
        if type(found) is not dict or list(sorted(found, key=str)) != list(names):
            return False
        if not all(found[name] is None or naive_is_bound(names, found[name]) for name in names):
            return False
    if not all(bounds[0][name] is not None and below(((name, 1),), bounds[0][name][1]) for name in names):
        return False
    for k, step in enumerate(steps):
        ahead, behind = dict(bounds[k]), bounds[k + 1]
        if step[0] != "loop" and papers[k] is not None:
            return False
        if step[0] == "loop":
            if not naive_is_loop_paper(names, flats[k], papers[k]):
                return False
            ahead["#"] = ahead[step[1]]
        for name in names:
            if step[0] == "loop":
                terms = [terms for part, terms in papers[k] if name in part]
                if not terms:
                    if behind[name] is not None:
                        return False
                    continue
                terms = list(terms[0])
            else:
                terms = [(1, ((name, 1),))] if step[1] != name or step[0] != "set" else []
                terms += terms_in(step) if step[1] == name else ()
            if behind[name] is None:
                continue
            if any(ahead[other] is None for _, one in terms for other, _ in one) or not told_covers(behind[name], terms, ahead):
                return False
    return True


def changed(rng, names, thing):
    """Stairs with one change that may make them wrong ones."""
    bounds, papers = [dict(found) for found in thing[0]], list(thing[1])
    kind = rng.choice(["factor", "none", "drop", "more", "paper", "exchange", "bound", "raise", "name", "place"])
    place = rng.randrange(len(bounds))
    name = rng.choice(names)
    bound = bounds[place][name]
    if kind == "none":
        bounds[place][name] = None
    elif kind == "name":
        bounds[place] = rng.choice([{n: b for n, b in bounds[place].items() if n != name}, {**bounds[place], "z": bound}])
    elif kind == "place":
        bounds = rng.choice([bounds[1:], bounds[:-1], bounds + bounds[-1:]])
    elif kind in ("paper", "exchange") and papers:
        at = rng.randrange(len(papers))
        papers[at] = rng.choice([None, (), papers[rng.randrange(len(papers))], (papers[at] or ())[:-1], (papers[at] or ())[1:]])
    elif bound is None:
        bounds[place][name] = (10 ** 6, tuple(((other, 9),) for other in names))
    elif kind == "factor":
        bounds[place][name] = (bound[0] - 1, bound[1])
    elif kind == "raise":
        bounds[place][name] = (bound[0] + 1, bound[1])
    elif kind == "drop":
        at = rng.randrange(len(bound[1]))
        bounds[place][name] = (bound[0], bound[1][:at] + bound[1][at + 1:])
    elif kind == "more":
        bounds[place][name] = (bound[0], bound[1] + (product(**{rng.choice(names): rng.randint(1, 3)}),) + bound[1][:1])
    else:
        bounds[place][name] = (bound[0], bounds[place][rng.choice(names)][1]) if None not in bounds[place].values() else None
    return tuple(bounds), tuple(papers)


class IsStairsTest(unittest.TestCase):
    def judged(self, program, thing, way=()):
        found = is_stairs(program, way, thing)
        self.assertIs(found, told_is_stairs(program, way, thing), thing)
        return found

    def test_a_way_without_steps(self):
        program = Program(("a", "b"), {}, ())
        self.assertTrue(self.judged(program, (({"a": (1, (A,)), "b": (1, (B,))},), ())))
        self.assertTrue(self.judged(program, (({"a": (7, (B, A, A)), "b": (2, (product(b=3),))},), ())))
        self.assertTrue(self.judged(program, (({"a": (1, ((("a", 1), ("b", 1)),)), "b": (1, (B, ()))},), ())))
        for wrong in [({"a": None, "b": (1, (B,))},), ({"a": (1, (B,)), "b": (1, (B,))},), ({"a": (0, (A,)), "b": (1, (B,))},),
                      ({"a": (1, ()), "b": (1, (B,))},), ({"a": (1, (A,))},), ({"a": (1, (A,)), "b": (1, (B,)), "x": None},), (),
                      ({"a": (1, (A,)), "x": (1, (B,))},), ({"a": (1, (A,)), 1: (1, (B,))},), ({"a": (1, (A,)), None: None},),
                      ({"a": (1, [A]), "b": (1, (B,))},), ({"a": [1, (A,)], "b": (1, (B,))},), ({"a": (True, (A,)), "b": (1, (B,))},),
                      ({"a": (1, (X, A)), "b": (1, (B,))},), ({"a": (1, ((("#", 1),), A)), "b": (1, (B,))},), [{"a": (1, (A,)), "b": (1, (B,))}],
                      ({"a": (1, (A,)), "b": (1, (B,))}, {"a": (1, (A,)), "b": (1, (B,))})]:
            self.assertFalse(self.judged(program, (wrong, ())), wrong)
        for wrong in [None, (), (({"a": (1, (A,)), "b": (1, (B,))},),), [({"a": (1, (A,)), "b": (1, (B,))},), ()],
                      (({"a": (1, (A,)), "b": (1, (B,))},), []), (({"a": (1, (A,)), "b": (1, (B,))},), (None,))]:
            self.assertFalse(self.judged(program, wrong), wrong)

    def around_row(self, row, factor, *products):
        """Whether a bound of x is right behind the row, if those ahead are 2 * a, 3 * b and 5 * x * b or x ^ 2."""
        ahead = {"a": (2, (A,)), "b": (3, (B,)), "x": (5, (product(b=1, x=1), product(x=2))), "y": None}
        first = {"a": (1, (A,)), "b": (1, (B,)), "x": (1, (X,)), "y": (1, (Y,))}
        program = made(lift("a", 1, a=1), row)
        bound = None if factor is None else (factor, products)
        return self.judged(program, ((first, ahead, {**ahead, "x": bound}), (None, None)))

    def test_rows(self):
        squares = (product(b=1, x=1), product(x=2))
        row = add("x", term(2), term(3, a=1, b=2))
        self.assertTrue(self.around_row(row, 5 + 2 + 3 * 2 * 9, *squares, product(a=1, b=2)))
        self.assertTrue(self.around_row(row, 100, product(a=2, b=2, x=2)))
        self.assertTrue(self.around_row(row, None))
        self.assertFalse(self.around_row(row, 5 + 2 + 3 * 2 * 9 - 1, *squares, product(a=1, b=2)))
        self.assertFalse(self.around_row(row, 99, product(a=1, b=2)))
        self.assertFalse(self.around_row(row, 99, *squares))
        row = lift("x", 7, x=1)
        self.assertTrue(self.around_row(row, 40, *squares))
        self.assertFalse(self.around_row(row, 39, *squares))
        row = become("x", term(4), term(1, x=1), term(1, x=2))
        self.assertTrue(self.around_row(row, 4 + 5 + 25, product(b=2, x=2), product(x=4)))
        self.assertFalse(self.around_row(row, 4 + 5 + 24, product(b=2, x=2), product(x=4)))
        self.assertFalse(self.around_row(row, 99, product(b=2, x=2), product(x=3)))
        self.assertTrue(self.around_row(become("x", term(4), term(1, a=1)), 6, A))

    def test_what_is_needed_is_none(self):
        for row in [add("x", term(1, y=1)), lift("x", 1, a=1, y=1), become("x", term(1, a=1), term(1, y=1))]:
            self.assertFalse(self.around_row(row, 999, product(a=9, b=9, x=9, y=9)))
            self.assertTrue(self.around_row(row, None))

    def test_other_names_keep_their_bounds(self):
        program = Program(("a", "b"), {}, (add("a"),))
        first = {"a": (1, (A,)), "b": (4, (B,))}
        for bound, good in [((4, (B,)), True), ((3, (B,)), False), ((9, (product(b=2), A)), True), ((9, (A,)), False), (None, True)]:
            self.assertIs(self.judged(program, ((first, {"a": (2, (A,)), "b": bound}), (None,))), good)

    def test_loops(self):
        program = made(loop("a", add("x", term(2, b=1)), lift("b", 1, y=1)))
        papers = stairs(program, ())[1]
        first = {"a": (3, (A,)), "b": (1, (B,)), "x": (1, (X,)), "y": (2, (Y,))}
        self.assertTrue(is_loop_paper(program.names, steps_and_flats(program, ())[1][0], papers[0]))
        # The sum of b is b + y, that of x is x + 2 * # * (b + y).
        good = {"a": (3, (A,)), "b": (3, (B, Y)), "x": (1 + 2 * 3 * 3, (X, product(a=1, b=1), product(a=1, y=1))), "y": (2, (Y,))}
        self.assertTrue(self.judged(program, ((first, good), papers)))
        for name, bound in [("b", (2, (B, Y))), ("b", (3, (B,))), ("x", (18, good["x"][1])), ("x", (19, good["x"][1][:2])), ("a", (2, (A,))),
                            ("y", (1, (Y,)))]:
            self.assertFalse(self.judged(program, ((first, {**good, name: bound}), papers)))
        for name in "abxy":
            self.assertTrue(self.judged(program, ((first, {**good, name: None}), papers)))
        less = tuple(pair for pair in papers[0] if "x" not in pair[0])
        self.assertFalse(self.judged(program, ((first, good), (less,))))
        self.assertTrue(self.judged(program, ((first, {**good, "x": None}), (less,))))
        self.assertTrue(self.judged(program, ((first, {name: None for name in "abxy"}), ((),))))
        for paper in [None, papers, [*papers[0]], papers[0][::-1], papers[0] * 2]:
            self.assertFalse(self.judged(program, ((first, good), (paper,))))

    def test_a_loop_whose_name_has_no_bound(self):
        program = made(doubled(), loop("x", add("y"), lift("b", 1, a=1)))
        good = stairs(program, ())
        self.assertTrue(self.judged(program, good))
        self.assertEqual({name: bound is None for name, bound in good[0][2].items()}, {"a": False, "b": False, "x": True, "y": True})
        self.assertFalse(self.judged(program, (good[0][:2] + ({**good[0][2], "y": (999, (Y, X))},), good[1])))

    def test_odd_objects_in_each_place(self):
        program = Program(("a", "b"), {}, (add("a", term(1, b=1)), loop("b", add("a"))))
        thing = stairs(program, ())
        self.assertTrue(self.judged(program, thing))
        for odd in odd_things():
            for wrong in replaced(thing, odd):
                self.judged(program, wrong)

    def test_mutated_stairs(self):
        rng = random.Random(101)
        verdicts = [0, 0]
        for program in some_programs(102, 120) + loopy_programs(103, 250):
            for way in ways(program)[:2]:
                thing = stairs(program, way)
                if max([0] + [len(terms) for paper in thing[1] for _, terms in paper or ()]) > 25:
                    continue
                for _ in range(4):
                    wrong = changed(rng, program.names, thing) if rng.randint(0, 2) else mutated(rng, thing)
                    verdicts[self.judged(program, wrong, way)] += 1
        self.assertGreater(min(verdicts), 300)


class StairsTest(unittest.TestCase):
    def test_the_example_program(self):
        p = program_p()
        found = stairs(p, ())
        self.assertTrue(told_is_stairs(p, (), found))
        self.assertEqual({name: bound[1] for name, bound in found[0][-1].items()}, heights(p, ()))

    def test_a_way_without_steps(self):
        found = stairs(made(), ())
        self.assertEqual({name: bound[1] for name, bound in found[0][-1].items()}, {"a": (A,), "b": (B,), "x": (X,), "y": (Y,)})
        self.assertEqual(found[1], ())

    def test_the_last_bounds_have_just_the_products_of_the_heights(self):
        for program in some_programs(104, 300, 4) + loopy_programs(105, 300):
            for way in ways(program)[:2]:
                found = stairs(program, way)
                self.assertIs(is_stairs(program, way, found), True)
                if max([0] + [len(terms) for paper in found[1] for _, terms in paper or ()]) < 20:
                    self.assertTrue(told_is_stairs(program, way, found))
                self.assertEqual({name: bound and bound[1] for name, bound in found[0][-1].items()}, heights(program, way))
                self.assertEqual(stairs(Program(program.names, program.bodies, program.main), way), found)

    def test_each_number_of_each_run_is_at_most_its_bound(self):
        rng = random.Random(106)
        seen = 0
        for program in some_programs(107, 250) + loopy_programs(108, 250):
            every = ways(program)
            starts = some_starts(rng, program, 4)
            for way in every[:2]:
                last = stairs(program, way)[0][-1]
                for number in range(5):
                    try:
                        numbers = WayRun(program, way, starts, rng).numbers if number else full_run(program, way, starts)[0]
                    except TooLong:
                        continue
                    for name, bound in last.items():
                        if bound is not None:
                            self.assertLessEqual(numbers[name], bound[0] * max(naive_value(one, starts) for one in bound[1]))
                            seen += 1
        self.assertGreater(seen, 3000)

    def test_great_numbers(self):
        program = made(loop("a", add("x", term(9, b=1)), lift("b", 9, y=3)), loop("x", add("a", term(9, x=3)), add("b")), become("y", term(9, a=3)),
                       become("x", term(9, y=3)))
        found = stairs(program, ())
        self.assertTrue(is_stairs(program, (), found))
        self.assertEqual({name: bound[1] for name, bound in found[0][-1].items()}, heights(program, ()))

    def test_errors(self):
        r = program_r()
        for odd in odd_things():
            if not (type(odd) is tuple and len(odd) == 1 and type(odd[0]) is int and odd[0] == 1):
                self.assertEqual(caught(stairs, r, odd), ("BadWay",))

    def test_each_dict_is_new(self):
        program = made(either((add("x"),), (loop("a", add("x")),)))
        for way in ways(program):
            first = stairs(program, way)
            kept = copy.deepcopy(first)
            for found in first[0]:
                found.clear()
            self.assertEqual(stairs(program, way), kept)
            is_stairs(program, way, kept)
            self.assertEqual(stairs(program, way), kept)


if __name__ == "__main__":
    unittest.main()
