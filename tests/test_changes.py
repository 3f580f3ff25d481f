"""Programs changed: loosened, behind, after and renamed (section 14)."""

import copy
import itertools
import random
import unittest

from helper import (add, become, call, caught, either, lift, loop, loopy_programs, odd_things, orders, product, program_p, program_r,
                    some_programs, term, turning_programs)
from howhigh.changes import after, behind, loosened, renamed
from howhigh.heights import heights, top, tops
from howhigh.hulls import lean
from howhigh.programs import Program
from howhigh.ways import ways

A, B, X, Y = product(a=1), product(b=1), product(x=1), product(y=1)


def made(*main, bodies=None):
    return Program(("a", "b", "x", "y"), bodies or {}, main)


def told_loose(block, inside):
    """The block, loosened, by the words of 14.1."""
    out = ()
    for statement in block:
        if statement[0] == "loop":
            out += ((*statement[:2], told_loose(statement[2], True)),)
        elif statement[0] in ("either", "orders") and inside:
            out += sum((told_loose(inner, True) for inner in statement[1]), ())
        elif statement[0] in ("either", "orders"):
            out += ((statement[0], tuple(told_loose(inner, False) for inner in statement[1])),)
        else:
            out += (statement,)
    return out


class LoosenedTest(unittest.TestCase):
    def loose(self, *main, bodies=None):
        found = loosened(made(*main, bodies=bodies))
        return found.main

    def test_inside_and_outside_loops(self):
        one, other = add("x"), add("y", term(1, x=1))
        self.assertEqual(self.loose(either((one,), (other,))), (either((one,), (other,)),))
        self.assertEqual(self.loose(orders((one,), (other,))), (orders((one,), (other,)),))
        self.assertEqual(self.loose(loop("a", either((one,), (other,)))), (loop("a", one, other),))
        self.assertEqual(self.loose(loop("a", orders((other,), (one, one)), one)), (loop("a", other, one, one, one),))
        self.assertEqual(self.loose(loop("a", either((), ()))), (loop("a"),))

    def test_one_in_another(self):
        one, other = add("x"), add("y")
        self.assertEqual(self.loose(loop("a", either((one, orders((other,), (one,))), (either((other,), (), (one,)),)))),
                         (loop("a", one, other, one, other, one),))
        self.assertEqual(self.loose(either((loop("a", either((one,), (loop("b", orders((one,), (other,))),))),), (other,))),
                         (either((loop("a", one, loop("b", one, other)),), (other,)),))
        self.assertEqual(self.loose(orders((either((loop("a", loop("b", either((one,), ()))),), ()),), ())),
                         (orders((either((loop("a", loop("b", one)),), ()),), ()),))

    def test_bodies_are_loosened_as_written(self):
        pick = either((add("x"),), (add("y"),))
        bodies = {"do": (pick, loop("b", pick)), "it": (loop("a", orders((call("so"),), ())),), "so": ()}
        found = loosened(made(call("do"), loop("a", call("do"), pick), bodies=bodies))
        self.assertEqual(found.main, (call("do"), loop("a", call("do"), add("x"), add("y"))))
        self.assertEqual(found.bodies, {"do": (pick, loop("b", add("x"), add("y"))), "it": (loop("a", call("so")),), "so": ()})

    def test_set_rows_stay(self):
        row = become("x", term(1, a=1))
        self.assertEqual(self.loose(row, either((row,), ())), (row, either((row,), ())))

    def test_too_many_ways_one_behind_the_other(self):
        bodies = {"do": (either((add("x"),), (), (add("y"),)),), "it": (either((), ()),)}
        fine = made(loop("a", either((call("do"),), (call("do"), call("it")), (call("it"), call("it")))), bodies=bodies)
        # 3 * 3 * 2 * 2 * 2 ways
        self.assertEqual(caught(loosened, fine), ("BadProgram", "main"))
        fewer = made(loop("a", either((call("do"),), (call("it"), call("it")), (call("it"),))), bodies=bodies)
        self.assertEqual(loosened(fewer).main, (loop("a", call("do"), call("it"), call("it"), call("it")),))
        once_more = made(loop("a", either((call("do"),), (call("it"), call("it")), (call("it"), either((add("x"),), (call("it"),))))), bodies=bodies)
        self.assertEqual(caught(loosened, once_more), ("BadProgram", "main"))
        outside = made(either((call("do"),), (call("do"), call("it")), (call("it"), call("it"))), loop("b", call("do"), call("do")), bodies=bodies)
        self.assertEqual(loosened(outside), outside)

    def test_many_programs(self):
        changed, wrong = 0, 0
        for program in some_programs(161, 500, 4) + turning_programs(162, 150):
            parts = (program.names, {word: told_loose(block, False) for word, block in program.bodies.items()}, told_loose(program.main, False))
            if caught(Program, *parts) is not None:
                self.assertEqual(caught(loosened, program), caught(Program, *parts))
                wrong += 1
                continue
            found = loosened(program)
            self.assertEqual((found.names, found.bodies, found.main), parts)
            self.assertEqual(loosened(found), found)
            self.assertEqual(ways(found), ways(program))
            for way in ways(program)[:3]:
                self.assertEqual(heights(found, way), heights(program, way))
            changed += found != program
        self.assertGreater(changed, 80)


class BehindTest(unittest.TestCase):
    def test_main_of_one_then_main_of_other(self):
        one, other = made(add("x"), loop("a", add("y"))), made(become("x", term(1, y=1)))
        self.assertEqual(behind(one, other), made(add("x"), loop("a", add("y")), become("x", term(1, y=1))))
        self.assertEqual(behind(other, one).main, other.main + one.main)
        self.assertEqual(behind(one, made()), one)
        self.assertEqual(behind(made(), one), one)

    def test_bodies_of_both(self):
        one, other = made(call("do"), bodies={"do": (add("x"),)}), made(call("it"), bodies={"it": (add("y"),)})
        self.assertEqual(behind(one, other), made(call("do"), call("it"), bodies={"do": (add("x"),), "it": (add("y"),)}))
        again = made(call("do"), add("y"), bodies={"do": (add("x"),)})
        self.assertEqual(behind(one, again), made(call("do"), call("do"), add("y"), bodies={"do": (add("x"),)}))

    def test_unlike(self):
        p = program_p()
        self.assertEqual(caught(behind, p, made()), ("Unlike",))
        self.assertEqual(caught(behind, made(), p), ("Unlike",))
        self.assertEqual(caught(behind, Program(("a",), {}, ()), Program(("b",), {}, ())), ("Unlike",))
        for odd in odd_things():
            if type(odd) is not Program:
                self.assertEqual(caught(behind, p, odd), ("Unlike",))
                self.assertEqual(caught(behind, odd, p), ("Unlike",))
                self.assertEqual(caught(behind, odd, odd), ("Unlike",))

    def test_clash(self):
        def with_bodies(**bodies):
            return made(bodies=bodies)
        one = with_bodies(do=(), it=(add("x"),), so=(add("y"),))
        self.assertEqual(caught(behind, one, with_bodies(it=(), so=())), ("Clash", "it"))
        self.assertEqual(caught(behind, one, with_bodies(so=(), it=())), ("Clash", "it"))
        self.assertEqual(caught(behind, one, with_bodies(do=(), so=())), ("Clash", "so"))
        self.assertEqual(caught(behind, with_bodies(so=()), one), ("Clash", "so"))
        self.assertIsNone(caught(behind, one, with_bodies(do=(), it=(add("x"),))))
        # What the calls of a body do may differ no more than by the calls themselves.
        self.assertEqual(caught(behind, with_bodies(do=(call("it"),), it=()), with_bodies(do=(), it=())), ("Clash", "do"))

    def test_the_order_of_errors(self):
        many = made(bodies={word: (add("x"),) for word in ["a", "b", "c", "d"]})
        clash = made(bodies={"d": (), "e": (), "f": ()})
        self.assertEqual(caught(behind, many, clash), ("Clash", "d"))
        unlike = Program(("a",), {"d": (), "e": ()}, ())
        self.assertEqual(caught(behind, many, unlike), ("Unlike",))
        long = made(*[add("x")] * 12, bodies={"d": (add("x"),), "e": ()})
        self.assertEqual(caught(behind, many, long), ("BadProgram", "bodies"))

    def test_more_than_four_words_together(self):
        def words(letters):
            return made(bodies={letter: () for letter in letters})
        self.assertEqual(sorted(behind(words("abc"), words("bcd")).bodies), ["a", "b", "c", "d"])
        self.assertEqual(caught(behind, words("abc"), words("de")), ("BadProgram", "bodies"))
        self.assertEqual(caught(behind, words("abcd"), words("e")), ("BadProgram", "bodies"))

    def test_twelve_rows_together_and_thirteen(self):
        six, seven = made(*[add("x")] * 6), made(*[add("x")] * 7)
        self.assertEqual(len(behind(six, six).main), 12)
        self.assertEqual(caught(behind, six, seven), ("BadProgram", "main"))
        self.assertEqual(caught(behind, seven, six), ("BadProgram", "main"))

    def test_twenty_four_ways_together_and_twenty_five(self):
        four, five, six = made(either((), ()), either((), ())), made(either((), (either((), (), (), ),), (add("x"),))), made(either((), ()), either((), (), ()))
        self.assertEqual([len(ways(program)) for program in (four, five, six)], [4, 5, 6])
        self.assertEqual(len(ways(behind(four, six))), 24)
        self.assertEqual(caught(behind, five, five), ("BadProgram", "main"))
        self.assertEqual(len(ways(behind(five, four))), 20)

    def test_forty_statements_together_and_forty_one(self):
        twenty, more = made(*[loop("a")] * 20), made(*[loop("a")] * 21)
        self.assertEqual(len(behind(twenty, twenty).main), 40)
        self.assertEqual(caught(behind, twenty, more), ("BadProgram", "main"))
        self.assertEqual(caught(behind, more, twenty), ("BadProgram", "main"))

    def test_ways_and_heights(self):
        rng = random.Random(163)
        pool = {}
        for program in some_programs(164, 400) + loopy_programs(165, 300):
            pool.setdefault(program.names, []).append(program)
        seen = 0
        for _ in range(500):
            one, other = [rng.choice(pool[names]) for names in [rng.choice(sorted(pool))] for _ in range(2)]
            if caught(behind, one, other) is not None:
                continue
            both = behind(one, other)
            every = list(itertools.product(ways(one), ways(other)))
            self.assertEqual(ways(both), sorted(way + further for way, further in every))
            for way, further in rng.sample(every, min(3, len(every))):
                first, second = heights(one, way), heights(other, further)
                kept = copy.deepcopy((first, second))
                self.assertEqual(after(first, second), heights(both, way + further), (one.main, other.main))
                self.assertEqual((first, second), kept)
                seen += 1
        self.assertGreater(seen, 250)


class AfterTest(unittest.TestCase):
    def test_products_in_the_place_of_names(self):
        first = {"a": (A, B), "b": (product(a=2),), "x": None}
        self.assertEqual(after(first, {"a": (product(a=1, b=1),), "b": (B, product(a=2)), "x": (A,)}),
                         {"a": (product(a=2, b=1), product(a=3)), "b": (product(a=2), product(b=2)), "x": (A, B)})

    def test_none(self):
        first = {"a": None, "b": (B,)}
        self.assertEqual(after(first, {"a": (product(a=1, b=1),), "b": (B,)}), {"a": None, "b": (B,)})
        self.assertEqual(after(first, {"a": (B,), "b": None}), {"a": (B,), "b": None})
        self.assertEqual(after(first, {"a": (product(b=2),), "b": (A, B)}), {"a": (product(b=2),), "b": None})
        self.assertEqual(after({"a": None, "b": None}, {"a": ((),), "b": (A,)}), {"a": ((),), "b": None})

    def test_it_is_lean(self):
        first = {"a": (product(a=2), product(b=2)), "b": (product(a=1, b=1),)}
        self.assertEqual(after(first, {"a": (A, B), "b": (product(a=1, b=1), product(b=3))})["a"], (product(a=2), product(b=2)))
        for found in after(first, {"a": (A, B), "b": (product(a=1, b=1), product(b=3))}).values():
            self.assertEqual(lean(found), found)

    def test_the_order_of_keys_means_nothing_and_the_answer_is_new(self):
        first, second = {"a": (A,), "b": (B,)}, {"b": (A,), "a": (B,)}
        found = after(first, second)
        self.assertEqual(found, after(dict(reversed(first.items())), dict(reversed(second.items()))))
        found.clear()
        self.assertEqual(after(first, second), {"a": (B,), "b": (A,)})
        self.assertEqual((first, second), ({"a": (A,), "b": (B,)}, {"b": (A,), "a": (B,)}))

    def test_great_heights(self):
        first = {name: tuple(sorted(product(**{name: 1, other: 5}) for other in "abxy" if other != name)) for name in "abxy"}
        second = {"a": (product(a=50, b=50, x=50, y=50),), "b": (B,), "x": (X,), "y": (Y,)}
        found = after(first, second)
        self.assertEqual(max(sum(power for _, power in one) for one in found["a"]), 1200)


class RenamedTest(unittest.TestCase):
    def test_names_exchanged_in_a_ring(self):
        found = renamed(program_p(), {"a": "b", "b": "x", "x": "a"})
        self.assertEqual(found, Program(("a", "b", "x"), {}, (loop("b", add("a", term(1, x=1)), add("x", term(1))),)))
        self.assertEqual(renamed(renamed(found, {"a": "b", "b": "x", "x": "a"}), {"a": "b", "b": "x", "x": "a"}), program_p())

    def test_sums_and_products_are_ordered_anew(self):
        program = made(add("x", term(2, a=1, b=2), term(3, a=2), term(4, y=1)), lift("y", 2, a=1, x=2), become("a", term(1), term(1, b=1), term(5, x=1)),
                       bodies={"x": (either((loop("b", lift("b", 1, a=1, b=1)),), (call("y"),)),), "y": ()})
        found = renamed(program, {"a": "z", "b": "m", "x": "aa", "y": "n"})
        self.assertEqual(found.names, ("aa", "m", "n", "z"))
        self.assertEqual(found.main, (("add", "aa", ((2, (("m", 2), ("z", 1))), (4, (("n", 1),)), (3, (("z", 2),)))), ("lift", "n", (2, (("aa", 2), ("z", 1)))),
                                      ("set", "z", ((1, ()), (5, (("aa", 1),)), (1, (("m", 1),))))))
        self.assertEqual(found.bodies, {"x": (either((loop("m", ("lift", "m", (1, (("m", 1), ("z", 1))))),), (call("y"),)),), "y": ()})

    def test_words_stay(self):
        program = Program(("a",), {"a": (add("a"),)}, (call("a"),))
        self.assertEqual(renamed(program, {"a": "b"}), Program(("b",), {"a": (add("b"),)}, (call("a"),)))

    def test_the_same_names(self):
        for program in some_programs(166, 100, 4):
            self.assertEqual(renamed(program, {name: name for name in program.names}), program)

    def test_ways_and_heights(self):
        rng = random.Random(167)
        for program in some_programs(168, 200, 4) + loopy_programs(169, 100):
            fresh = rng.sample(["a", "b", "x", "y", "mm", "zz", "k"], len(program.names))
            names = dict(zip(program.names, fresh))
            back = dict(zip(fresh, program.names))
            found = renamed(program, names)
            self.assertEqual(found.names, tuple(sorted(fresh)))
            self.assertEqual(renamed(found, back), program)
            self.assertEqual(ways(found), ways(program))

            def named(products):
                return products and tuple(sorted(tuple(sorted((names[name], power) for name, power in one)) for one in products))
            for way in ways(program)[:2]:
                self.assertEqual(heights(found, way), {names[name]: named(products) for name, products in heights(program, way).items()})
            for name in program.names:
                self.assertEqual(top(found, names[name]), named(top(program, name)))
            self.assertEqual(len(tops(found)), len(tops(program)))

    def test_bad_names(self):
        r = program_r()
        right = {"a": "x", "b": "a", "x": "zzzzzzzz"}
        self.assertIsNone(caught(renamed, r, right))
        for odd in odd_things():
            self.assertEqual(caught(renamed, r, odd), ("BadNames",))
            for name in right:
                if not (type(odd) is str and odd in ("a", "b", "zz", "add", "loop") and odd not in {**right, name: ""}.values()):
                    self.assertEqual(caught(renamed, r, {**right, name: odd}), ("BadNames",), odd)
        for wrong in [{"a": "x", "b": "a"}, {**right, "y": "y"}, {"a": "x", "b": "a", "y": "b"}, {**right, "x": "a"}, {1: "x", "b": "a", "x": "b"},
                      {"a": "x", "b": "a", None: "b"}, {}, [("a", "x"), ("b", "a"), ("x", "b")], {**right, "y": "a"}, {**right, "x": ("b",)}, {**right, "x": ["b"]}]:
            self.assertEqual(caught(renamed, r, wrong), ("BadNames",), wrong)

    def test_nothing_is_changed(self):
        names = {"a": "x", "b": "a", "x": "b"}
        p = program_p()
        renamed(p, names)
        self.assertEqual((names, p), ({"a": "x", "b": "a", "x": "b"}, program_p()))
        found = renamed(p, names)
        names["a"] = "b"
        self.assertEqual(found.names, ("a", "b", "x"))


if __name__ == "__main__":
    unittest.main()
