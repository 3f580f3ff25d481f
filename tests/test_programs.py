"""Programs and their bounds (2.1 and 2.2), with the first part that is not as told."""

import random
import unittest

from howhigh.errors import BadProgram
from howhigh.programs import Program

from helper import (add, become, call, caught, either, lift, loop, naive_wrong_part, odd_things, orders, program_p,
                    program_r, product, replaced, some_parts, some_programs, term)

NAMES = ("a", "b")


def wrong_part(names, bodies, main):
    """The part of BadProgram, None for a right program."""
    try:
        Program(names, bodies, main)
    except BadProgram as error:
        return error.part
    return None


class PartsTest(unittest.TestCase):
    def test_parts_are_kept(self):
        body = (add("a", term(1, b=1)),)
        one = Program(("a", "b"), {"go": body}, (call("go"),))
        self.assertEqual((one.names, one.bodies, one.main), (("a", "b"), {"go": body}, (call("go"),)))

    def test_bodies_are_a_new_dict_each_time(self):
        bodies = {"go": ()}
        one = Program(("a",), bodies, (call("go"),))
        bodies["so"] = ()
        one.bodies["to"] = ()
        one.bodies.clear()
        self.assertEqual(one.bodies, {"go": ()})
        self.assertIsNot(one.bodies, one.bodies)

    def test_programs_are_equal_just_if_all_parts_are(self):
        def made(names=("a", "b"), bodies=(("go", ()), ("so", ())), main=(call("go"),)):
            return Program(names, dict(bodies), main)
        self.assertTrue(made() == made())
        self.assertFalse(made() != made())
        self.assertTrue(made() == made(bodies=(("so", ()), ("go", ()))))
        self.assertFalse(made() == made(names=("a", "b", "c")))
        self.assertFalse(made() == made(bodies=(("go", ()),)))
        self.assertFalse(made() == made(bodies=(("go", (add("a"),)), ("so", ()))))
        self.assertFalse(made() == made(main=()))
        self.assertTrue(made() != made(main=()))

    def test_programs_that_write_out_alike_are_not_equal(self):
        body = (add("a"),)
        self.assertFalse(Program(("a",), {"go": body}, body) == Program(("a",), {"go": body}, (call("go"),)))

    def test_programs_are_equal_to_nothing_else(self):
        one = program_p()
        for thing in odd_things() + [(one.names, one.bodies, one.main)]:
            if thing != program_r():
                self.assertFalse(one == thing)
                self.assertFalse(thing == one)
                self.assertTrue(one != thing)


class NamesTest(unittest.TestCase):
    def test_right_names(self):
        for names in [("a",), ("a", "b", "c", "d"), ("abcdefgh",), ("a", "aa", "ab", "z"), ("zzzzzzzz",), ("loop", "set")]:
            self.assertIsNone(wrong_part(names, {}, ()), names)

    def test_wrong_names(self):
        for names in [(), ("a", "b", "c", "d", "e"), ("abcdefghi",), ("",), ("b", "a"), ("a", "a"), ["a"], ("A",), ("a1",),
                      ("a b",), ("#",), (1,), (None,), ("a", 1), (("a",),), (b"a",), "a", {"a": 1}, ("\xe9",), (True,)]:
            self.assertEqual(wrong_part(names, {}, ()), "names", names)


class BodiesTest(unittest.TestCase):
    def test_four_words_and_five(self):
        words = {word: () for word in ("a", "b", "c", "d")}
        self.assertIsNone(wrong_part(NAMES, words, ()))
        self.assertEqual(wrong_part(NAMES, {**words, "e": ()}, ()), "bodies")

    def test_words_are_names(self):
        self.assertIsNone(wrong_part(NAMES, {"abcdefgh": ()}, ()))
        for word in ["", "abcdefghi", "A", 1, None, ("a",), True, b"a", "a\n"]:
            self.assertEqual(wrong_part(NAMES, {word: ()}, ()), "bodies", word)
            self.assertEqual(wrong_part(NAMES, {"a": (), word: ()}, ()), "bodies", word)

    def test_bodies_call_greater_words_only(self):
        for word in ["b", "c"]:
            self.assertIsNone(wrong_part(NAMES, {"a": (call(word),), "b": (), "c": ()}, ()))
        for word in ["a", "b", "d", "", None, 1, ("c",), b"c"]:
            self.assertEqual(wrong_part(NAMES, {"a": (), "b": (call(word),), "c": ()}, ()), "bodies", word)
            self.assertEqual(wrong_part(NAMES, {"b": (loop("a", either((), (call(word),))),), "c": ()}, ()), "bodies")

    def test_words_may_be_names_of_the_program(self):
        self.assertIsNone(wrong_part(("a",), {"a": (add("a"),)}, (call("a"),)))

    def test_bodies_have_no_set_rows(self):
        row = become("a", term(1, b=1))
        for block in [(row,), (either((), (row,)),), (orders((row,), ()),), (loop("a", row),)]:
            self.assertEqual(wrong_part(NAMES, {"a": block}, ()), "bodies")

    def test_forty_statements_and_forty_one(self):
        for block in [(add("a"),) * 39, (loop("a", *[lift("b", 1, a=1)] * 38),), (either((add("a"),) * 19, (add("b"),) * 19),),
                      (orders((loop("a"),), (add("b"),) * 37),)]:
            full = (add("a"),) + block
            self.assertIsNone(wrong_part(NAMES, {"a": full}, ()))
            self.assertEqual(wrong_part(NAMES, {"a": full + (add("b"),)}, ()), "bodies")
            self.assertIsNone(wrong_part(NAMES, {"a": (call("b"),) + block, "b": (add("a"),)}, ()))
            self.assertEqual(wrong_part(NAMES, {"a": (call("b"),) + block, "b": (add("a"),) * 2}, ()), "bodies")
            self.assertIsNone(wrong_part(NAMES, {"a": (loop("a", call("b")),), "b": block}, ()))
            self.assertEqual(wrong_part(NAMES, {"a": (loop("a", call("b")), add("a")), "b": block}, ()), "bodies")

    def test_a_body_may_be_too_long_by_one_that_is_just_not(self):
        self.assertIsNone(wrong_part(NAMES, {"a": (call("b"),), "b": (add("a"),) * 40}, ()))
        self.assertEqual(wrong_part(NAMES, {"a": (add("a"), call("b")), "b": (add("a"),) * 40}, ()), "bodies")
        self.assertEqual(wrong_part(NAMES, {"a": (call("b"), call("c")), "b": (add("a"),) * 40, "c": (add("b"),)}, ()), "bodies")
        self.assertEqual(wrong_part(NAMES, {"a": (), "b": (add("a"), call("c")), "c": (add("b"),) * 40}, (call("a"),)), "bodies")

    def test_bodies_are_not_bounded_otherwise(self):
        deep = ()
        for _ in range(25):
            deep = (loop("a", *deep),)
        for body in [(add("a"),) * 13, deep, (either((), ()),) * 40, (loop("a", *[orders((), (), ())] * 39),)]:
            self.assertIsNone(wrong_part(NAMES, {"a": body}, ()))
            self.assertEqual(wrong_part(NAMES, {"a": body}, (call("a"),)), "main")

    def test_calls_are_no_statements_written_out(self):
        calls = {"a": (call("b"),) * 300, "b": (call("c"),) * 3, "c": ()}
        self.assertIsNone(wrong_part(NAMES, calls, (call("a"), call("b"), *[call("c")] * 60)))


class MainTest(unittest.TestCase):
    def test_all_forms_of_statements(self):
        main = (become("a", term(1, b=1)), add("a", term(1)), lift("b", 9, a=3), loop("a", add("b")), either((), (add("a"),)),
                orders((), (), (become("b", term(1, a=1)),)), call("go"))
        self.assertIsNone(wrong_part(NAMES, {"go": (add("b"),)}, main))

    def test_statements_of_a_wrong_length_or_word(self):
        for right in [add("a"), become("a", term(1, b=1)), lift("a", 1), loop("a"), either((), ()), orders((), ()), call("go")]:
            self.assertIsNone(wrong_part(NAMES, {"go": ()}, (right,)))
            for wrong in [(), right[:1], right[:-1], right + ((),), right + (1,), right * 2, ("",) + right[1:], ("Add",) + right[1:],
                          (None,) + right[1:], (right,), right[0], list(right), ("round",) + right[1:], right[::-1]]:
                self.assertEqual(wrong_part(NAMES, {"go": ()}, (wrong,)), "main", wrong)
                self.assertEqual(wrong_part(NAMES, {"go": ()}, (loop("b", wrong),)), "main", wrong)
                self.assertEqual(wrong_part(NAMES, {"fo": (wrong,), "go": ()}, ()), "bodies", wrong)

    def test_set_rows_stand_outside_loops(self):
        row = become("a", term(1, b=1))
        for main in [(row,), (either((), (row,)),), (orders((), (either((row,), ()),)),)]:
            self.assertIsNone(wrong_part(NAMES, {}, main))
        for main in [(loop("a", row),), (loop("a", either((), (row,))),), (either((loop("a", orders((row,), ())),), ()),),
                     (loop("a", loop("a", row)),)]:
            self.assertEqual(wrong_part(NAMES, {}, main), "main")

    def test_set_rows_need_a_term_that_grows(self):
        self.assertIsNone(wrong_part(NAMES, {}, (become("a", term(9), term(1, b=1)),)))
        self.assertEqual(wrong_part(NAMES, {}, (become("a", term(9)),)), "main")

    def test_calls(self):
        bodies = {"go": (), "so": ()}
        self.assertIsNone(wrong_part(NAMES, bodies, (call("go"), loop("a", call("so")))))
        for word in ["to", "a", "", None, 1, ("go",), ["go"], {}]:
            self.assertEqual(wrong_part(NAMES, bodies, (call(word),)), "main", word)
            self.assertEqual(wrong_part(NAMES, bodies, (loop("a", call(word)),)), "main", word)
        self.assertEqual(wrong_part(NAMES, bodies, (("call", "go", "so"),)), "main")

    def test_three_terms_and_four(self):
        terms = (term(1), term(1, a=1), term(1, a=2), term(1, b=1))
        for word in ["add", "set"]:
            self.assertIsNone(wrong_part(NAMES, {}, ((word, "a", terms[:3]),)))
            self.assertEqual(wrong_part(NAMES, {}, ((word, "a", terms),)), "main")
            self.assertEqual(wrong_part(NAMES, {}, ((word, "a", ()),)), "main")

    def test_coefficients_and_degrees(self):
        for coefficient, one, right in [(1, (), True), (9, (("a", 3),), True), (10, (), False), (0, (), False), (-1, (), False),
                                        (1, (("a", 4),), False), (1, (("a", 2), ("b", 1)), True), (1, (("a", 0),), False),
                                        (1, (("a", 2), ("b", 2)), False), (1, (("a", -1), ("b", 1)), False)]:
            part = None if right else "main"
            self.assertEqual(wrong_part(NAMES, {}, (("lift", "a", (coefficient, one)),)), part)
            self.assertEqual(wrong_part(NAMES, {}, (("add", "a", ((coefficient, one),)),)), part)
            if one != ():
                self.assertEqual(wrong_part(NAMES, {}, (("set", "a", ((coefficient, one),)),)), part)

    def test_products_and_sums_are_strictly_ascending(self):
        a, b, two = product(a=1), product(b=1), product(a=2)
        for terms in [((1, b), (1, a)), ((1, a), (1, a)), ((1, two), (1, a)), ((1, a), (1, ())), ((1, (("b", 1), ("a", 1))),),
                      ((1, (("a", 1), ("a", 1))),)]:
            self.assertEqual(wrong_part(NAMES, {}, (("add", "a", terms),)), "main", terms)
        self.assertIsNone(wrong_part(NAMES, {}, (("add", "a", ((1, product(a=1, b=1)), (1, two), (1, b))),)))

    def test_names_are_those_of_the_program(self):
        for statement in [add("c"), lift("c", 1), become("c", term(1, a=1)), loop("c"), add("a", term(1, c=1)),
                          lift("a", 1, c=1), become("a", term(1, c=1)), loop("a", add("c")), add("#"), add("a", term(1, b=1, c=1))]:
            self.assertEqual(wrong_part(NAMES, {}, (statement,)), "main", statement)
            self.assertEqual(wrong_part(NAMES, {"a": (statement,)}, ()), "bodies", statement)

    def test_either_and_orders_have_two_or_three_blocks(self):
        for word in ["either", "orders"]:
            for many, part in [(0, "main"), (1, "main"), (2, None), (3, None), (4, "main")]:
                self.assertEqual(wrong_part(NAMES, {}, ((word, ((),) * many),)), part)

    def test_twelve_rows_and_thirteen(self):
        rows = (add("a"), lift("b", 1), become("a", term(1, b=1))) * 4
        self.assertIsNone(wrong_part(NAMES, {}, rows))
        self.assertEqual(wrong_part(NAMES, {}, rows + (add("a"),)), "main")
        self.assertIsNone(wrong_part(NAMES, {"go": (add("a"),) * 2}, rows[:10] + (loop("a", call("go")),)))
        self.assertEqual(wrong_part(NAMES, {"go": (add("a"),) * 3}, rows[:10] + (loop("a", call("go")),)), "main")

    def test_forty_statements_and_forty_one(self):
        loops = (loop("a"),) * 38
        self.assertIsNone(wrong_part(NAMES, {}, loops + (either((), (add("a"),)),)))
        self.assertEqual(wrong_part(NAMES, {}, loops + (either((loop("b"),), (add("a"),)),)), "main")
        self.assertIsNone(wrong_part(NAMES, {"go": loops[:20]}, loops[:18] + (loop("a", add("b")), call("go"))))
        self.assertEqual(wrong_part(NAMES, {"go": loops[:20]}, loops[:19] + (loop("a", add("b")), call("go"))), "main")
        self.assertEqual(wrong_part(NAMES, {"go": loops[:21]}, (call("go"), call("go"))), "main")
        self.assertEqual(wrong_part(NAMES, {"go": loops}, (call("go"),) * 1000), "main")

    def test_eight_deep_and_nine(self):
        for wrap in [lambda block: (either(block, ()),), lambda block: (either((), block),)]:
            block = (loop("a", loop("b", add("a"))),)
            for _ in range(6):
                block = wrap(block)
            self.assertIsNone(wrong_part(NAMES, {}, block))
            self.assertEqual(wrong_part(NAMES, {}, wrap(block)), "main")
            self.assertIsNone(wrong_part(NAMES, {"go": block}, (add("a"), call("go"))))
            self.assertEqual(wrong_part(NAMES, {"go": block}, (loop("a", call("go")),)), "main")
        deep = ()
        for _ in range(4):
            deep = (orders(deep, ()),)
        self.assertIsNone(wrong_part(NAMES, {}, (loop("a", either((), (loop("a", either((), deep)),))),)))
        self.assertEqual(wrong_part(NAMES, {}, (either((), (loop("a", either((), (loop("a", either((), deep)),))),)),)), "main")

    def test_two_loops_deep_and_three(self):
        for inner in [(), (add("a"),), (either((), ()),)]:
            self.assertIsNone(wrong_part(NAMES, {}, (loop("a", loop("b", *inner), loop("a", *inner)), loop("a", *inner))))
            self.assertEqual(wrong_part(NAMES, {}, (loop("a", loop("b", loop("a", *inner))),)), "main")
            self.assertEqual(wrong_part(NAMES, {}, (loop("a", either((), (loop("b", orders((loop("a"),), ())),))),)), "main")
            self.assertEqual(wrong_part(NAMES, {"go": (loop("a", loop("b", *inner)),)}, (loop("a", call("go")),)), "main")

    def test_twenty_four_ways_and_more(self):
        two, three = either((), ()), either((), (), ())
        twenty_five = either((two, two, three), (two, two, three), ())
        for block, right in [((two, two, two, three), True), ((orders((), (), ()), two, two), True), ((two,) * 5, False),
                             ((twenty_five,), False), ((either((two, two, three), (two, two, three)),), True),
                             ((orders((three,), (two, two)),), True), ((orders((three,), (two, two, two)),), False),
                             ((orders((two,), (two,), ()),), True), ((orders((three,), (two,), ()),), False),
                             ((either((three,), (either((two, two, two), (two, three)), three)),), False)]:
            part = None if right else "main"
            self.assertEqual(wrong_part(NAMES, {}, block), part)
            self.assertEqual(wrong_part(NAMES, {}, (loop("a", *block),)), part)
            self.assertEqual(wrong_part(NAMES, {}, (loop("a", loop("b", *block)),)), part)
            self.assertEqual(wrong_part(NAMES, {}, (either((), (loop("a", *block),)),)), part)
            self.assertEqual(wrong_part(NAMES, {"go": block}, (call("go"),)), part)
            self.assertEqual(wrong_part(NAMES, {"go": block}, (loop("a", call("go")),)), part)
            self.assertIsNone(wrong_part(NAMES, {"go": block}, ()))

    def test_ways_in_loops_are_no_ways_of_what_stands_around(self):
        wide = (either((), (), ()), either((), ()), either((), ()), either((), ()))
        self.assertIsNone(wrong_part(NAMES, {}, (*wide, loop("a", *wide, loop("b", *wide)))))


class WrongPartsTest(unittest.TestCase):
    def test_the_first_wrong_part_is_told(self):
        for names, bodies, main, part in [((), None, None, "names"), (["a"], {}, (), "names"), (("a",), None, None, "bodies"),
                                          (("a",), {"go": None}, (call("to"),), "bodies"), (("a",), {}, None, "main"),
                                          (("b", "a"), {"B": ()}, (), "names"), (("a",), {"go": (add("b"),)}, (add("b"),), "bodies")]:
            self.assertEqual(wrong_part(names, bodies, main), part)
            self.assertEqual(caught(Program, names, bodies, main), ("BadProgram", part))

    def test_lists_are_no_tuples_and_flags_no_integers(self):
        whole = (("a", "b"), {"go": (add("b"),)}, (add("a", term(1, a=1, b=1)), loop("a", lift("a", 1, b=1)),
                                                   either((), (call("go"),)), become("b", term(1, a=2))))
        parts = ("names", "bodies", "main")
        self.assertIsNone(wrong_part(*whole))

        def spoiled(thing):
            if type(thing) is tuple:
                yield list(thing)
            if thing == 1:
                yield True
            if type(thing) is str:
                yield thing.encode()
                yield [thing]
            if type(thing) in (tuple, dict):
                for key in range(len(thing)) if type(thing) is tuple else thing:
                    for fresh in spoiled(thing[key]):
                        yield thing[:key] + (fresh,) + thing[key + 1:] if type(thing) is tuple else {**thing, key: fresh}

        for at, part in enumerate(parts):
            for fresh in spoiled(whole[at]):
                self.assertEqual(wrong_part(*whole[:at], fresh, *whole[at + 1:]), part, fresh)

    def test_odd_things_in_all_places(self):
        bodies = {"go": (add("b", term(2), term(1, a=1, b=1)), call("to")), "to": (loop("a", lift("a", 2, b=2)),)}
        whole = (("a", "b"), bodies, (become("b", term(1, a=1)), either((call("go"),), (orders((), (add("a"),)),))))
        for odd in odd_things():
            for at in range(3):
                for fresh in replaced(whole[at], odd):
                    parts = (*whole[:at], fresh, *whole[at + 1:])
                    self.assertEqual(wrong_part(*parts), naive_wrong_part(*parts), parts)

    def test_several_odd_things_at_once(self):
        rng = random.Random(8)
        things = odd_things()
        for _ in range(2000):
            parts = [rng.choice(things + [right] * 40) for right in (("a", "b"), {"a": ()}, (call("a"),))]
            self.assertEqual(wrong_part(*parts), naive_wrong_part(*parts), parts)

    def test_objects_that_have_the_same_object_in_them_again_and_again(self):
        for word in ["either", "orders"]:
            block = ()
            for _ in range(20):
                block = ((word, (block, block, block)),)
            self.assertEqual(wrong_part(NAMES, {}, block), "main")
            self.assertEqual(wrong_part(NAMES, {"a": block}, ()), "bodies")
        thing = ()
        for _ in range(60):
            thing = (thing, thing)
        self.assertEqual(wrong_part(thing, {}, ()), "names")
        self.assertEqual(wrong_part(NAMES, {"a": thing}, ()), "bodies")
        self.assertEqual(wrong_part(NAMES, {}, (("add", "a", thing),)), "main")

    def test_many_programs_near_the_bounds(self):
        rng = random.Random(11)
        told = []
        for _ in range(3000):
            parts = some_parts(rng, rng.choice([2, 3, 4, 9]))
            told.append(wrong_part(*parts))
            self.assertEqual(told[-1], naive_wrong_part(*parts), parts)
        self.assertGreater(told.count("main"), 30)
        self.assertGreater(told.count(None), 300)

    def test_what_is_handed_in_is_not_changed(self):
        for one in some_programs(5, 30):
            bodies = one.bodies
            keys = list(bodies.items())
            self.assertTrue(Program(one.names, bodies, one.main) == one)
            self.assertEqual(list(bodies.items()), keys)


if __name__ == "__main__":
    unittest.main()
