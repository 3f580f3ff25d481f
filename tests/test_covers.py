"""Programs covered by other ones, coverings, and where programs are outrun (section 11)."""

import copy
import itertools
import random
import unittest

from helper import (add, become, caught, either, lift, loop, loopy_programs, mutated, naive_product_over, odd_things, orders, product,
                    program_p, program_r, replaced, some_programs, term, weighs, with_path, sites, at_path)
from howhigh.covers import covered, covering, is_covering, outrun
from howhigh.errors import TooLong
from howhigh.fullruns import full_run
from howhigh.heights import heights, top
from howhigh.programs import Program
from howhigh.ways import ways

A, B, X, Y = product(a=1), product(b=1), product(x=1), product(y=1)
NAMES = ("a", "b", "x")


def made(*main, names=NAMES):
    return Program(names, {}, main)


def adding(*products):
    """A block with a row of x for each of the products."""
    return tuple(("add", "x", ((1, one),)) for one in products)


def doing(*blocks):
    """A program that does one of the blocks, up to 9 of them."""
    if len(blocks) == 1:
        return made(*blocks[0])
    if len(blocks) <= 3:
        return made(("either", tuple(blocks)))
    return made(("either", tuple((("either", tuple(blocks[k::2])),) for k in range(2))))


def all_heights(program):
    return {way: heights(program, way) for way in ways(program)}


def weight(products, heading):
    return max(weighs(one, heading) for one in products)


def covers(names, one, other, heading):
    """Whether the heights other cover the heights one in the direction, by the words of 11.1."""
    return all(other[name] is None or weight(other[name], heading) >= weight(one[name], heading) for name in names)


def told_outrun(one, other, names, thing):
    """Whether it is a pair as outrun tells, by the words of 11.3."""
    if type(thing) is not tuple or len(thing) != 2:
        return False
    way, heading = thing
    if way not in ways(one) or type(heading) is not dict or set(heading) != set(one.names):
        return False
    if not all(type(number) is int and number >= 1 for number in heading.values()):
        return False
    return not any(covers(names, heights(one, way), theirs, heading) for theirs in all_heights(other).values())


def told_cases(names, asked, mine, others, claims, thing):
    """Whether they are cases, by the words of 11.3."""
    if type(thing) is not tuple or not thing or type(thing[0]) is not str:
        return False
    if thing[0] == "none" and len(thing) == 2:
        found = thing[1]
        if type(found) is not tuple or len(found) != len(claims) or not all(type(x) is int and x >= 0 for x in found) or not any(found):
            return False
        return all(sum(x * dict(p).get(name, 0) for x, (p, q) in zip(found, claims))
                   <= sum(x * dict(q).get(name, 0) for x, (p, q) in zip(found, claims)) for name in names)
    if thing[0] != "way" or len(thing) != 3 or type(thing[2]) is not dict:
        return False
    if type(thing[1]) is not tuple or not all(type(x) is int for x in thing[1]) or thing[1] not in others:
        return False
    theirs = others[thing[1]]
    keys = {(name, one) for name in asked if theirs[name] is not None for one in mine[name]}
    if set(thing[2]) != keys:
        return False
    if not all(type(name) is str and naive_product_over(names, one) for name, one in thing[2]):
        return False
    return all(told_cases(names, asked, mine, others, claims + [(one, q) for q in theirs[name]], thing[2][name, one]) for name, one in keys)


def told_covering(one, other, asked, thing):
    if type(thing) is not dict or set(thing) != set(ways(one)) or not all(type(x) is int for way in thing for x in way):
        return False
    ones, others = all_heights(one), all_heights(other)
    return all(told_cases(one.names, asked, ones[way], others, [], thing[way]) for way in ones)


def some_pairs(seed, many):
    """So many pairs of programs with the same names, and names, for which covered raises nothing."""
    rng = random.Random(seed)
    pool = {}
    for program in some_programs(seed, 500, 4) + loopy_programs(seed + 1, 500):
        if len(ways(program)) <= 4:
            pool.setdefault(program.names, []).append(program)
    found = []
    while len(found) < many:
        names = rng.choice(sorted(pool))
        one, other = rng.choice(pool[names]), rng.choice(pool[names])
        asked = tuple(sorted(rng.sample(names, rng.choice([1, min(2, len(names))]))))
        if caught(covered, one, other, asked) is None:
            found.append((one, other, asked))
    return found


class CoveredTest(unittest.TestCase):
    def agree(self, one, other, asked, verdict=None):
        """Hold covered, covering and outrun against one another and the words; the verdict."""
        found = covered(one, other, asked)
        self.assertIs(type(found), bool)
        cover, lost = covering(one, other, asked), outrun(one, other, asked)
        self.assertEqual((cover is not None, lost is not None), (found, not found))
        if found:
            self.assertTrue(told_covering(one, other, asked, cover), (one.main, other.main, cover))
            self.assertIs(is_covering(one, other, asked, cover), True)
        else:
            self.assertTrue(told_outrun(one, other, asked, lost), (one.main, other.main, lost))
        if verdict is not None:
            self.assertIs(found, verdict)
        return found

    def test_the_example_programs(self):
        p, r = program_p(), program_r()
        self.agree(p, r, ("x",), False)
        self.agree(p, r, ("b",), True)
        self.agree(r, p, ("x",), True)
        self.agree(r, p, ("b", "x"), True)
        self.agree(p, r, ("a",), True)

    def test_a_program_is_covered_by_itself_and_by_one_that_does_a_row_more(self):
        seen = 0
        for one, _, asked in some_pairs(131, 120):
            self.agree(one, one, asked, True)
            more = one.main + (("add", one.names[0], ((1, (("b", 2),)),)),)
            if caught(Program, one.names, one.bodies, more) is None:
                self.agree(one, Program(one.names, one.bodies, more), asked, True)
                seen += 1
        self.assertGreater(seen, 80)

    def test_many_pairs(self):
        verdicts = [0, 0]
        for one, other, asked in some_pairs(133, 500):
            verdicts[self.agree(one, other, asked)] += 1
        self.assertGreater(min(verdicts), 120)

    def test_none_of_its_ways_alone_but_several_in_turn(self):
        both = product(a=1, b=1)
        one = made(*adding(both, product(b=2)))
        one_square, other_square = adding(product(a=2)), adding(product(b=2))
        self.agree(one, doing(one_square), ("x",), False)
        self.agree(one, doing(other_square), ("x",), False)
        self.agree(one, doing(one_square, other_square), ("x",), True)
        self.agree(made(*adding(product(a=2), product(b=2))), doing(one_square, other_square), ("x",), True)
        self.agree(made(*adding(both)), doing(one_square, other_square, ()), ("x",), True)
        self.agree(made(*adding(product(a=1, b=1, x=1))), doing(*[adding(product(**{name: 3})) for name in "abx"]), ("x",), True)
        self.agree(made(*adding(product(a=1, b=1, x=1))), doing(*[adding(product(**{name: 3})) for name in "ab"]), ("x",), False)

    def test_two_names_must_be_covered_at_once(self):
        one = made(add("a", term(1, x=1)), add("b", term(1, x=1)))
        other = made(either((add("a", term(1, x=1)),), (add("b", term(1, x=1)),)))
        self.agree(one, other, ("a",), True)
        self.agree(one, other, ("b",), True)
        self.agree(one, other, ("a", "b"), False)
        self.agree(other, one, ("a", "b"), True)

    def test_two_names_by_several_in_turn(self):
        # In each direction a or b weighs no more than the other one.
        one = made(lift("a", 1, a=1), lift("b", 1, b=1))
        other = made(become("x", term(1, a=1), term(1, b=1)), either((become("a", term(1, x=1)),), (become("b", term(1, x=1)),)))
        self.agree(one, other, ("a", "b"), True)
        swap = made(become("x", term(1, a=1)), either((), (become("a", term(1, b=1)), become("b", term(1, x=1)))))
        self.agree(one, swap, ("a", "b"), True)
        self.agree(made(*adding(A, B)), made(either(adding(A), adding(B))), ("x",), True)
        self.agree(made(*adding(A, B), add("a", term(1, b=1))), made(either(adding(A), adding(B))), ("a", "x"), False)
        self.agree(made(*adding(A, B), add("a", term(1, b=1))), made(either(adding(A), adding(B)), add("a", term(1, b=1))), ("a", "x"), True)

    def test_heights_that_are_none_in_other_cover_whatever_is_asked(self):
        above = made(loop("a", add("x", term(1, x=1))))
        one = made(*adding(product(a=3), product(b=3)))
        self.agree(one, above, ("x",), True)
        self.assertEqual(is_covering(one, above, ("x",), {(): ("way", (), {})}), True)
        self.agree(one, above, ("a", "x"), True)
        self.agree(made(*one.main, add("a", term(1, b=1))), above, ("a", "x"), False)
        self.agree(one, made(either((), above.main)), ("x",), True)

    def test_constants(self):
        low = made(become("x", term(1), term(1, a=1)))
        self.agree(low, made(become("x", term(9, a=1))), ("x",), True)
        self.agree(made(become("x", term(9, a=1))), low, ("x",), True)
        self.agree(made(become("x", term(1, b=1))), low, ("x",), False)

    def test_four_ways_in_both(self):
        every = [product(a=3), product(b=3), product(x=3), product(a=1, b=1, x=1)]
        blocks = [adding(one) for one in every]
        self.agree(doing(*blocks), doing(*blocks[:3], ()), ("x",), True)
        self.agree(doing(*blocks), doing(*blocks[1:], ()), ("x",), False)
        self.agree(made(*adding(*every[:2])), doing(*blocks), ("x",), True)
        self.agree(made(*adding(*every[:2], product(a=2, b=1))), doing(*blocks), ("x",), True)
        self.agree(doing(*blocks), made(*adding(*every)), ("x",), True)
        rng = random.Random(134)
        pool = [product(**{name: power for name, power in zip("abx", powers) if power})
                for powers in itertools.product(range(4), repeat=3) if 1 <= sum(powers) <= 3]
        verdicts = [0, 0]
        for _ in range(60):
            chosen = rng.sample(pool, 6)
            one = made(*adding(*chosen[:rng.randint(2, 6)]), add("b", term(1, x=1)))
            parts = [[], [], [], []]
            for k, product_there in enumerate(chosen):
                parts[k % 4].append(product_there)
            other = Program(NAMES, {}, doing(*[adding(*part) for part in parts]).main + (add("b", term(1, x=1)),))
            verdicts[self.agree(one, other, rng.choice([("x",), ("b",), ("b", "x")]))] += 1
        self.assertGreater(min(verdicts), 10)

    def test_directions_of_all_names_from_one_on(self):
        one = Program(("a", "b", "x", "y"), {}, (add("x", term(1, a=1)),))
        way, heading = outrun(one, Program(one.names, {}, ()), ("x",))
        self.assertEqual((way, sorted(heading)), ((), ["a", "b", "x", "y"]))
        self.assertGreater(heading["a"], heading["x"])
        one = made(*adding(product(a=1, b=2), product(b=1, x=2)))
        for other in [made(*adding(product(b=3), product(x=3), product(a=3))), made(*adding(product(a=1, b=1), product(b=1, x=2)))]:
            self.agree(one, other, ("x",))

    def test_the_fact_of_11_2(self):
        """A covered program's runs lie beneath those of the other; in an outrunning direction they do not."""
        seen = [0, 0]
        for one, other, asked in some_pairs(135, 250):
            lost = outrun(one, other, asked)
            heading = {name: 1 for name in one.names} if lost is None else lost[1]
            if max(heading.values()) > 3:
                continue
            gaps = []
            for t in (4, 6):
                starts = {name: t ** power for name, power in heading.items()}
                try:
                    ones = [full_run(one, way, starts)[0] for way in ways(one)]
                    others = [full_run(other, way, starts)[0] for way in ways(other)]
                except TooLong:
                    break
                gaps.append(max(min(max(mine[name] / theirs[name] for name in asked) for theirs in others) for mine in ones))
            if len(gaps) == 2:
                seen[lost is None] += 1
                if lost is None:
                    self.assertLess(gaps[1], 10 ** 4)
        self.assertGreater(min(seen), 20)


class IsCoveringTest(unittest.TestCase):
    def judged(self, one, other, asked, thing):
        found = is_covering(one, other, asked, thing)
        self.assertIs(type(found), bool)
        return found

    def test_no_claims_are_never_closed_by_weights(self):
        self.assertFalse(is_covering(made(), made(), ("x",), {(): ("none", ())}))
        self.assertTrue(is_covering(made(), made(), ("x",), {(): ("way", (), {("x", X): ("none", (1,))})}))

    def test_cases_one_in_another(self):
        one, other = made(*adding(product(a=1, b=1))), doing(adding(product(a=2)), adding(product(b=2)))
        below = ("none", (0, 1))
        # x + a * b against a ^ 2 and x, then against b ^ 2 and x.
        right = {(): ("way", (0,), {("x", X): below, ("x", product(a=1, b=1)): ("way", (1,), {
            ("x", X): ("none", (0, 0, 0, 1)), ("x", product(a=1, b=1)): ("none", (1, 0, 1, 0))})})}
        self.assertTrue(told_covering(one, other, ("x",), right))
        self.assertTrue(self.judged(one, other, ("x",), right))
        inner = ((), 2, ("x", product(a=1, b=1)))
        for path, fresh in [(((),), None), (((),), ("none", ())), (((),), ("none", (1,))), (((), 0), "none"), (((), 1), (1,)), (((), 1), (2,)),
                            (((), 1), [0]), (((), 1), (False,)), ((), [right[()]]), (((), 2), []), (((), 2), None), (inner, below),
                            (inner, ("none", (1, 0))), (inner + (1,), (0,)), (inner + (1,), (True,)),
                            (inner + (2, ("x", X), 1), (0, 0, 0, 0)), (inner + (2, ("x", X), 1), (0, 0, 0, -1)),
                            (inner + (2, ("x", X), 1), (0, 0, 0, True)), (inner + (2, ("x", X), 1), (0, 0, 1)),
                            (inner + (2, ("x", X), 1), (0, 0, 0, 1, 0)), (inner + (2, ("x", X), 1), [0, 0, 0, 1]),
                            (inner + (2, ("x", X), 1), (0, 0, 0, 1.0)), (inner + (2, ("x", X), 0), "way"),
                            (inner + (2, ("x", product(a=1, b=1)), 1), (1, 0, 0, 0)), (inner + (2, ("x", product(a=1, b=1)), 1), (2, 0, 1, 0))]:
            self.assertFalse(self.judged(one, other, ("x",), with_path(right, path, fresh)), (path, fresh))
        self.assertTrue(self.judged(one, other, ("x",), with_path(right, inner + (2, ("x", product(a=1, b=1)), 1), (3, 0, 3, 0))))

    def test_ways_left_out_put_in_and_exchanged(self):
        one, other = doing(adding(A), adding(B)), doing(adding(A), adding(B))
        cover = covering(one, other, ("x",))
        self.assertTrue(self.judged(one, other, ("x",), cover))
        self.assertFalse(self.judged(one, other, ("x",), {(0,): cover[0,]}))
        self.assertFalse(self.judged(one, other, ("x",), {**cover, (2,): cover[0,]}))
        self.assertFalse(self.judged(one, other, ("x",), {**cover, (): cover[0,]}))
        self.assertFalse(self.judged(one, other, ("x",), {(0,): cover[1,], (1,): cover[0,]}))
        self.assertFalse(self.judged(one, other, ("x",), {(False,): cover[0,], (1,): cover[1,]}))
        self.assertFalse(self.judged(one, other, ("x",), {0: cover[0,], 1: cover[1,]}))
        self.assertFalse(self.judged(one, other, ("x",), {(0,): cover[0,], (5,): cover[1,]}))
        self.assertFalse(self.judged(one, other, ("x",), {(0,): cover[0,], (1, 0): cover[1,]}))
        self.assertFalse(self.judged(one, other, ("x",), {}))

    def test_pairs_left_out_put_in_and_with_flags(self):
        one = made(*adding(A))
        cover = {(): ("way", (), {("x", X): ("none", (0, 1)), ("x", A): ("none", (1, 0))})}
        self.assertTrue(self.judged(one, one, ("x",), cover))
        cases = cover[()][2]
        for wrong in [{("x", X): cases["x", X]}, {**cases, ("x", B): cases["x", X]}, {**cases, ("a", A): ("none", (1,))},
                      {("x", X): cases["x", A], ("x", A): cases["x", X]}, {("x", (("x", True),)): cases["x", X], ("x", A): cases["x", A]},
                      {X: cases["x", X], A: cases["x", A]}, {None: cases["x", X], ("x", A): cases["x", A]}, {}, {("x",): cases["x", X], ("x", A): cases["x", A]},
                      {("x", X, 1): cases["x", X], ("x", A): cases["x", A]}, {(): cases["x", X], ("x", A): cases["x", A]}, {("x", ("x", 1)): cases["x", X], ("x", A): cases["x", A]}]:
            self.assertFalse(self.judged(one, one, ("x",), {(): ("way", (), wrong)}), wrong)

    def test_a_way_may_come_again(self):
        one = made(*adding(A))
        cases = {("x", X): ("none", (0, 1)), ("x", A): ("none", (1, 0))}
        again = {("x", X): ("none", (1, 0, 0, 1)), ("x", A): ("none", (1, 0, 0, 0))}
        self.assertTrue(self.judged(one, one, ("x",), {(): ("way", (), {**cases, ("x", A): ("way", (), again)})}))
        self.assertEqual(told_covering(one, one, ("x",), {(): ("way", (), {**cases, ("x", A): ("way", (), again)})}), True)

    def test_odd_objects_in_each_place(self):
        one, other, asked = made(*adding(product(a=1, b=1))), doing(adding(product(a=2)), adding(product(b=2))), ("x",)
        cover = covering(one, other, asked)
        for odd in odd_things():
            self.assertFalse(self.judged(one, other, asked, odd))
        for path in sites(cover):
            for odd in odd_things():
                wrong = with_path(cover, path, odd)
                if odd != at_path(cover, path) or type(odd) is not type(at_path(cover, path)):
                    self.assertEqual(self.judged(one, other, asked, wrong), self.told(one, other, asked, wrong), (path, odd))

    def told(self, one, other, asked, thing):
        try:
            return told_covering(one, other, asked, thing)
        except TypeError:
            return False

    def test_mutated_coverings(self):
        rng = random.Random(136)
        verdicts = [0, 0]
        for one, other, asked in some_pairs(137, 300):
            cover = covering(one, other, asked)
            if cover is not None:
                for _ in range(8):
                    wrong = mutated(rng, cover, [("none", (1,)), (0,), (1,), ("x", X)])
                    verdict = self.judged(one, other, asked, wrong)
                    self.assertEqual(verdict, self.told(one, other, asked, wrong), wrong)
                    verdicts[verdict] += 1
        self.assertGreater(min(verdicts), 20)


class ErrorsTest(unittest.TestCase):
    ACTIONS = (covered, covering, outrun)

    def raised(self, *arguments):
        found = {caught(action, *arguments) for action in self.ACTIONS}
        self.assertEqual(len(found), 1, found)
        return found.pop()

    def test_unlike(self):
        p, r = program_p(), program_r()
        further = Program(("a", "b", "x", "y"), {}, ())
        self.assertEqual(self.raised(p, further, ("x",)), ("Unlike",))
        self.assertEqual(self.raised(further, p, ("x",)), ("Unlike",))
        self.assertEqual(self.raised(further, p, None), ("Unlike",))
        for odd in odd_things():
            if type(odd) is not Program:
                self.assertEqual(self.raised(p, odd, ("x",)), ("Unlike",))
                self.assertEqual(self.raised(odd, p, odd), ("Unlike",))
        self.assertIsNone(self.raised(p, r, ("x",)))

    def test_bad_names(self):
        p, r = program_p(), program_r()
        for odd in odd_things() + [("a", "b", "x"), ("b", "a"), ("a", "a"), ["a"], ("y",), ("a", "y"), (), "a", ("a", None), ("A",), (("a",),)]:
            if not (type(odd) is tuple and odd in (("a",), ("a", "b"))):
                self.assertEqual(self.raised(p, r, odd), ("BadNames",), odd)
        self.assertIsNone(self.raised(p, r, ("a",)))
        self.assertIsNone(self.raised(p, r, ("a", "b")))

    def test_above_tells_the_least_name(self):
        above = made(loop("a", add("x", term(1, x=1)), add("b", term(1, x=1))))
        self.assertEqual(self.raised(above, made(), ("b", "x")), ("Above", "b"))
        self.assertEqual(self.raised(above, made(), ("a", "x")), ("Above", "x"))
        self.assertEqual(self.raised(made(either((), above.main)), made(), ("x",)), ("Above", "x"))
        self.assertIsNone(self.raised(above, made(), ("a",)))
        self.assertIsNone(self.raised(made(), above, ("b", "x")))
        self.assertEqual(self.raised(above, made(), ("x", "b")), ("BadNames",))

    def test_too_many(self):
        five = made(either((), (either((), (), (), ),), (add("x"),)))
        four = doing((), (), (), ())
        self.assertEqual([len(ways(five)), len(ways(four))], [5, 4])
        self.assertIsNone(self.raised(four, four, ("x",)))
        self.assertEqual(self.raised(five, four, ("x",)), ("TooMany", 4))
        self.assertEqual(self.raised(four, five, ("x",)), ("TooMany", 4))
        above = made(*five.main, loop("a", add("x", term(1, x=1))))
        self.assertEqual(self.raised(above, five, ("x",)), ("Above", "x"))
        self.assertEqual(self.raised(five, above, ("x",)), ("TooMany", 4))
        self.assertEqual(self.raised(five, above, ["x"]), ("BadNames",))

    def test_many_odd_arguments(self):
        p = program_p()
        for thing in replaced(("b", "x"), None):
            self.assertEqual(self.raised(p, p, thing), ("BadNames",))


class AnswersTest(unittest.TestCase):
    def test_each_answer_is_new_and_equal_programs_have_equal_answers(self):
        for one, other, asked in some_pairs(138, 60):
            again = [Program(copy.deepcopy(each.names), copy.deepcopy(each.bodies), copy.deepcopy(each.main)) for each in (one, other)]
            cover, lost = covering(one, other, asked), outrun(one, other, asked)
            kept = copy.deepcopy((cover, lost))
            self.assertEqual((covering(*again, asked), outrun(*again, tuple(list(asked)))), kept)
            if cover is not None:
                is_covering(one, other, asked, cover)
                self.assertEqual(cover, kept[0])
                for cases in cover.values():
                    if cases[0] == "way":
                        for inner in cases[2].values():
                            if inner[0] == "way":
                                inner[2].clear()
                        cases[2].clear()
                cover.clear()
            else:
                lost[1].clear()
            self.assertEqual((covering(one, other, asked), outrun(one, other, asked)), kept)
            self.assertEqual([one, other], again)

    def test_the_top_of_a_covered_program_lies_below(self):
        for one, other, asked in some_pairs(139, 150):
            if covered(one, other, asked):
                for name in asked:
                    theirs = top(other, name)
                    heading = {each: 1 for each in one.names}
                    self.assertTrue(theirs is None or weight(top(one, name), heading) <= weight(theirs, heading))


if __name__ == "__main__":
    unittest.main()
