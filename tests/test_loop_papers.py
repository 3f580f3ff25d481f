"""Loop papers (section 5)."""

import copy
import itertools
import random
import unittest

from helper import (NaiveRun, add, either, lift, loop, naive_calm, naive_is_loop_paper, naive_parts, odd_things, orders, product,
                    program_p, replaced, some_flat, term)
from howhigh.flats import flat
from howhigh.looppapers import is_loop_paper, loop_paper
from howhigh.programs import Program
from howhigh.sums import plus, times, total
from howhigh.ways import straight

X, Y, Z = [((1, ((name, 1),)),) for name in "xyz"]
ROUNDS = ((1, (("#", 1),)),)
NAMES = ("x", "y", "z")
# y is raised by 2, x by y, and z is lifted to 3 times the product of x and y.
ROWS = (("add", "x", 1, (("y", 1),)), ("add", "y", 2, ()), ("lift", "z", 3, (("x", 1), ("y", 1))))


def times_all(*sums):
    found = ((1, ()),)
    for one in sums:
        found = times(found, one)
    return found


def paper_of_rows():
    y = plus(Y, ((2, (("#", 1),)),))
    x = plus(X, times_all(ROUNDS, y))
    z = plus(Z, times_all(((3, ()),), x, y))
    return ((("y",), y), (("x",), x), (("z",), z))


def changed(rng, names, paper):
    """A paper with one thing changed that may make it a wrong one."""
    pairs = [list(pair) for pair in paper]
    kind = rng.choice(["lower", "raise", "drop term", "more term", "drop pair", "swap", "double", "drop name", "more name", "merge", "power"])
    if not pairs:
        return (((names[0],), ((1, ((names[0], 1),)),)),)
    at = rng.randrange(len(pairs))
    part, terms = pairs[at]
    if not terms:
        return paper
    k = rng.randrange(len(terms))
    if kind in ("lower", "raise"):
        c = terms[k][0] + (1 if kind == "raise" else -1)
        pairs[at][1] = terms[:k] + ((c, terms[k][1]),) + terms[k + 1:]
    elif kind == "drop term":
        pairs[at][1] = terms[:k] + terms[k + 1:]
    elif kind == "more term":
        pairs[at][1] = plus(terms, ((1, product(**{rng.choice(names): rng.choice([1, 2, 99, 100])})),))
    elif kind == "drop pair":
        del pairs[at]
    elif kind == "swap":
        rng.shuffle(pairs)
    elif kind == "double":
        pairs.insert(rng.randrange(len(pairs)), pairs[at])
    elif kind == "drop name":
        pairs[at][0] = part[1:]
    elif kind == "more name":
        more = rng.choice(names)
        pairs[at][0] = rng.choice([tuple(sorted({*part, more})), part + (more,)])
        pairs[at][1] = rng.choice([terms, plus(terms, ((1, ((more, 1),)),))])
    elif kind == "merge":
        other = pairs.pop(rng.randrange(len(pairs)))
        pairs = [[tuple(sorted({*one, *other[0]})), plus(sums, other[1])] for one, sums in pairs]
    else:
        c, one = terms[k]
        pairs[at][1] = tuple(sorted(terms[:k] + terms[k + 1:] + ((c, tuple((n, q + 1) for n, q in one)),), key=lambda one: one[1]))
    return tuple(tuple(pair) for pair in pairs)


class IsLoopPaperTest(unittest.TestCase):
    def good(self, names, rows, thing):
        self.assertIs(is_loop_paper(names, rows, thing), True)
        self.assertTrue(naive_is_loop_paper(names, rows, thing))

    def bad(self, names, rows, thing):
        self.assertIs(is_loop_paper(names, rows, thing), False)
        self.assertFalse(naive_is_loop_paper(names, rows, thing))

    def test_a_right_paper_and_its_beginnings(self):
        paper = paper_of_rows()
        for many in range(4):
            self.good(NAMES, ROWS, paper[:many])
            self.good(list(NAMES), ROWS, paper[:many])

    def test_the_empty_paper(self):
        self.good(("x",), (), ())
        self.good(("x",), (("add", "x", 1, (("x", 1),)),), ())
        for thing in [[], {}, None, "", False, 0]:
            self.bad(("x",), (), thing)

    def test_pairs_ahead(self):
        y, x, z = paper_of_rows()
        for wrong in [(x, y, z), (x,), (y, z), (z, x, y), (y, z, x), (y, y), (y, x, x), (y, x, z, z)]:
            self.bad(NAMES, ROWS, wrong)

    def test_a_coefficient_or_a_term_less(self):
        paper = paper_of_rows()
        for at, (part, terms) in enumerate(paper):
            for k, (c, one) in enumerate(terms):
                for fresh in [terms[:k] + terms[k + 1:], terms[:k] + ((c - 1, one),) + terms[k + 1:]]:
                    self.bad(NAMES, ROWS, paper[:at] + ((part, fresh),) + paper[at + 1:])

    def test_a_coefficient_or_a_term_more_in_the_last_pair(self):
        paper = paper_of_rows()
        part, terms = paper[2]
        for k, (c, one) in enumerate(terms):
            self.good(NAMES, ROWS, paper[:2] + ((part, terms[:k] + ((c + 1, one),) + terms[k + 1:]),))
        self.good(NAMES, ROWS, paper[:2] + ((part, plus(terms, ((1, ()), (5, (("#", 9), ("x", 3)))))),))

    def test_a_greater_sum_needs_greater_ones_behind(self):
        y, x, z = paper_of_rows()
        more = (y[0], plus(y[1], ((1, ()),)))
        self.good(NAMES, ROWS, (more,))
        self.bad(NAMES, ROWS, (more, x))
        self.good(NAMES, ROWS, (more, (x[0], plus(x[1], ROUNDS))))

    def test_powers_to_99(self):
        for power, good in [(99, True), (100, False)]:
            terms = plus(X, ((1, (("#", power),)),))
            self.assertIs(is_loop_paper(("x",), (), ((("x",), terms),)), good)
            self.assertIs(is_loop_paper(("x",), (), ((("x",), plus(X, ((1, (("x", power),)),))),)), good)

    def test_what_a_round_adds_comes_with_one_power_of_the_rounds_more(self):
        rows = (("add", "x", 1, ()), ("add", "y", 1, (("x", 2),)))
        x = plus(X, ROUNDS)
        added = times(x, x)
        y = plus(Y, times(ROUNDS, added))
        self.good(("x", "y"), rows, ((("x",), x), (("y",), y)))
        # Of 0 + 1 + .. + (k - 1) less than k to 2 is enough, but half of it is no integer.
        self.bad(("x", "y"), rows, ((("x",), x), (("y",), plus(Y, added)),))

    def test_lifts_inside_a_part_are_left_out(self):
        rows = (("lift", "x", 1, (("y", 1),)), ("lift", "y", 1, (("x", 1),)), ("add", "x", 4, (("z", 1),)))
        both = plus(plus(X, Y), ((4, (("#", 1), ("z", 1))),))
        self.good(NAMES, rows, ((("z",), Z), (("x", "y"), both)))
        self.bad(NAMES, rows, ((("x", "y"), both),))
        self.bad(NAMES, rows, ((("z",), Z), (("x",), plus(X, ((4, (("#", 1), ("z", 1))),)))))
        self.bad(NAMES, rows, ((("z",), Z), (("x", "y"), plus(X, ((4, (("#", 1), ("z", 1))),)))))
        for row in [("lift", "x", 2, (("y", 1),)), ("lift", "x", 1, (("y", 2),)), ("lift", "x", 1, (("y", 1), ("z", 1))),
                    ("add", "x", 1, (("y", 1),))]:
            self.bad(NAMES, (row,), ((("z",), Z), (("x", "y"), both)))

    def test_a_lift_to_a_name_of_another_pair_counts(self):
        rows = (("lift", "x", 1, (("y", 1),)),)
        self.good(NAMES, rows, ((("y",), Y), (("x",), plus(X, Y))))
        self.bad(NAMES, rows, ((("y",), Y), (("x",), X)))
        self.bad(NAMES, rows, ((("x",), plus(X, Y)),))
        self.good(NAMES, rows, ((("x", "y"), plus(X, Y)),))

    def test_a_part_need_not_be_one(self):
        y, x, z = paper_of_rows()
        self.good(("x", "y"), (), ((("x", "y"), plus(X, Y)),))
        self.good(("x", "y", "z"), (("add", "x", 1, ()), ("lift", "z", 3, ())), ((("x", "z"), plus(plus(X, Z), plus(ROUNDS, ((3, ()),)))),))
        self.bad(NAMES, ROWS, (y, (("x", "z"), plus(x[1], z[1]))))
        self.good(NAMES, ROWS[:2], (y, (("x", "z"), plus(x[1], Z))))

    def test_a_part_that_doubles_is_in_no_paper(self):
        for row in [("add", "x", 1, (("x", 1),)), ("lift", "x", 2, (("x", 1),)), ("lift", "x", 1, (("x", 2),))]:
            self.bad(("x",), (row,), ((("x",), plus(X, times(ROUNDS, X))),))
        self.good(("x",), (("lift", "x", 1, (("x", 1),)),), ((("x",), X),))

    def test_lifts_and_adds_in_one_round(self):
        rows = (("add", "x", 2, ()), ("lift", "x", 5, (("y", 1),)))
        paper = ((("y",), Y), (("x",), plus(plus(X, ((5, (("y", 1),)),)), ((2, (("#", 1),)),))))
        self.good(("x", "y"), rows, paper)
        for less in [((2, (("#", 1),)), (1, (("x", 1),)), (4, (("y", 1),))), ((1, (("#", 1),)), (1, (("x", 1),)), (5, (("y", 1),)))]:
            self.bad(("x", "y"), rows, (paper[0], (("x",), less)))

    def test_names_of_others_are_none(self):
        self.bad(("x",), (), ((("y",), Y),))
        self.bad(("x",), (), ((("x",), plus(X, Y)),))
        self.bad(("x",), (), ((("#",), ROUNDS),))
        self.bad(("x", "y"), (), ((("y", "x"), plus(X, Y)),))
        self.bad(("x", "y"), (), ((("x", "x"), plus(X, Y)),))
        self.bad(("x", "y"), (), ((("x",), X), (("x", "y"), plus(X, Y))))
        self.bad(("x", "y"), (), (((), X),))
        self.bad(("x", "y"), (), ((["x"], X),))

    def test_what_is_no_sum(self):
        for wrong in [(), [*X], ((1, (("x", 1),)), (1, (("x", 1),))), ((1, (("y", 1),)), (1, (("x", 1),))), ((0, ()), *X), ((True, ()), *X),
                      ((1, (("x", True),)),), ((1, (("x", 0), ("y", 1))), *X), ((1, [("x", 1)]),), ([1, (("x", 1),)],), ((1, (["x", 1],)),),
                      ((-1, ()), *X), ((1, (("x", 1), ("x", 1))), *X), ((1, (("y", 1), ("x", 1))), *X), ((1, (("x", 1),), 1),)]:
            self.bad(("x", "y"), (), ((("x",), wrong),))

    def test_odd_objects_in_each_place(self):
        rows = (("add", "x", 1, (("y", 1),)),)
        paper = ((("y",), Y), (("x",), plus(X, ((1, (("#", 1), ("y", 1))),))))
        self.good(("x", "y"), rows, paper)
        for odd in odd_things():
            for thing in replaced(paper, odd):
                if type(odd) in (int, bool, str, tuple, list, dict, type(None)):
                    self.assertIs(is_loop_paper(("x", "y"), rows, thing), naive_is_loop_paper(("x", "y"), rows, thing))
                else:
                    self.assertIs(is_loop_paper(("x", "y"), rows, thing), False)

    def test_against_the_second_telling(self):
        rng = random.Random(51)
        verdicts = [0, 0]
        for _ in range(1500):
            names, rows = some_flat(rng, 4, 5, 2)
            thing = loop_paper(names, rows)
            if max([0] + [len(terms) for _, terms in thing]) > 60:
                continue
            for _ in range(rng.randint(0, 2)):
                thing = changed(rng, names, thing)
            found = is_loop_paper(names, rows, thing)
            self.assertIs(found, naive_is_loop_paper(names, rows, thing), (names, rows, thing))
            verdicts[found] += 1
        self.assertGreater(min(verdicts), 300)


class LoopPaperTest(unittest.TestCase):
    def test_the_example_program(self):
        p = program_p()
        rows = flat(p, straight(p, ())[0])
        paper = loop_paper(p.names, rows)
        self.assertTrue(naive_is_loop_paper(p.names, rows, paper))
        self.assertEqual({name for part, _ in paper for name in part}, {"a", "b", "x"})

    def test_no_flat_rows(self):
        paper = loop_paper(["a", "x"], ())
        self.assertTrue(naive_is_loop_paper(["a", "x"], (), paper))
        self.assertEqual(sorted(part for part, _ in paper), [("a",), ("x",)])

    def test_parts_that_double_and_those_given_from_them_have_no_pair(self):
        rows = (("add", "a", 1, (("x", 1),)), ("add", "x", 1, (("x", 1),)), ("lift", "c", 1, (("a", 1),)), ("add", "d", 1, (("b", 2),)))
        paper = loop_paper(("a", "b", "c", "d", "x"), rows)
        self.assertEqual([part for part, _ in paper], [("b",), ("d",)])
        self.assertEqual(loop_paper(("x",), (("lift", "x", 2, (("x", 1),)),)), ())

    def test_its_pairs_are_of_just_the_calm_parts_and_it_is_a_loop_paper(self):
        rng = random.Random(52)
        for _ in range(800):
            names, rows = some_flat(rng, 5, 6, 2)
            kept = copy.deepcopy((names, rows))
            paper = loop_paper(names, rows)
            calm = naive_calm(names, rows)
            self.assertEqual(sorted(part for part, _ in paper), sorted(part for part in naive_parts(names, rows) if part[0] in calm))
            self.assertIs(is_loop_paper(names, rows, paper), True)
            if sum(len(terms) for _, terms in paper) < 80:
                self.assertTrue(naive_is_loop_paper(names, rows, paper), (names, rows, paper))
            self.assertEqual(loop_paper(list(names), rows), paper)
            self.assertEqual((names, rows), kept)

    def test_long_sums(self):
        rows = (("add", "b", 1, (("a", 3),)), ("add", "c", 1, (("a", 1), ("b", 3))), ("add", "d", 2, (("c", 4),)), ("lift", "b", 3, (("a", 2),)))
        names = ("a", "b", "c", "d")
        paper = loop_paper(names, rows)
        self.assertGreater(len(paper[3][1]), 150)
        self.assertTrue(is_loop_paper(names, rows, paper))
        part, terms = paper[3]
        for k in [0, 100, len(terms) - 2]:
            less = terms[:k] + ((terms[k][0] - 1, terms[k][1]),) + terms[k + 1:]
            if less[k][0] > 0:
                self.assertEqual(is_loop_paper(names, rows, paper[:3] + ((part, less),)), naive_is_loop_paper(names, rows, paper[:3] + ((part, less),)))

    def test_each_number_of_a_part_is_at_most_the_sum_after_any_rounds(self):
        block = (either((add("y", term(1, x=1)),), (lift("y", 2, a=1, x=1),)), orders((add("x", term(2)),), (lift("x", 1, a=2),)),
                 loop("a", add("y")), lift("x", 1, b=1), lift("b", 1, x=1))
        program = Program(("a", "b", "x", "y"), {}, (("loop", "a", block),))
        paper = loop_paper(program.names, flat(program, straight(program, ())[0]))
        self.assertEqual(sorted(name for part, _ in paper for name in part), ["a", "b", "x", "y"])
        rng = random.Random(53)
        for _ in range(300):
            starts = {name: rng.randint(1, 5) for name in program.names}
            run = NaiveRun(program, starts, lambda kind, many: rng.randrange(many + (kind == "loop")))
            rounds = run.told[0][1]
            for part, terms in paper:
                for name in part:
                    self.assertLessEqual(run.numbers[name], total(terms, {**starts, "#": rounds}))

    def test_all_small_sets_of_rows(self):
        products = [(), (("a", 1),), (("b", 1),), (("a", 1), ("b", 1))]
        every = [(word, name, c, one) for word in ("add", "lift") for name in "ab" for c in (1, 2) for one in products]
        for rows in itertools.combinations(every, 2):
            if len({(word, name, one) for word, name, _, one in rows}) < 2:
                continue
            paper = loop_paper(("a", "b"), rows)
            self.assertTrue(naive_is_loop_paper(("a", "b"), rows, paper), rows)
            self.assertTrue(is_loop_paper(("a", "b"), rows, paper), rows)
            calm = naive_calm(("a", "b"), rows)
            self.assertEqual(sorted(name for part, _ in paper for name in part), calm)


if __name__ == "__main__":
    unittest.main()
