"""Programs and products read from their texts (15.3)."""

import copy
import random
import unittest

from helper import (caught, lift, loop, loopy_programs, odd_things, product, program_p, program_r, some_programs, told_error, told_parts,
                    told_product, told_sum)
from howhigh.programs import Program
from howhigh.reading import read_product, read_program
from howhigh.texts import product_text, program_text


def text_with(*lines, names="a b x"):
    """A text with these lines in main."""
    return "\n".join([f"names {names}", "main", *lines, "done", ""])


def main_of(*lines):
    return read_program(text_with(*lines)).main


class ReadProgramTest(unittest.TestCase):
    def fails(self, text, line):
        self.assertEqual(caught(read_program, text), ("BadText", line), text)

    def test_the_example_of_the_document(self):
        self.assertEqual(read_program("names a b x\nmain\nloop a\nadd x b\nadd b 1\ndone\ndone\n"), program_p())

    def test_what_was_written_is_read_back(self):
        for program in [program_p(), program_r(), *some_programs(181, 400, 4), *loopy_programs(182, 100)]:
            text = program_text(program)
            self.assertEqual(read_program(text), program)
            self.assertEqual(program_text(read_program(text)), text)

    def test_what_is_no_string(self):
        for odd in odd_things():
            if not isinstance(odd, str):
                self.assertEqual(caught(read_program, odd), ("BadText", 0))
        self.assertEqual(caught(read_program, b"names a\nmain\ndone\n"), ("BadText", 0))
        self.assertEqual(caught(read_program, ["names a", "main", "done"]), ("BadText", 0))

    def test_texts_that_end_too_early(self):
        text = text_with("either", "add x a", "or", "done", "loop a", "done")
        lines = text.split("\n")[:-1]
        for many in range(len(lines)):
            self.fails("".join(line + "\n" for line in lines[:many]), many + 1)
        self.fails("", 1)
        self.fails("names a\nbody a\ndone\n", 4)

    def test_what_stands_behind_the_last_line_feed(self):
        text = text_with("add x a")
        lines = text.split("\n")[:-1]
        for many in range(1, len(lines) + 1):
            self.fails("\n".join(lines[:many]), many)
        for more in [" ", "x", "names a", "done"]:
            self.fails(text + more, 5)

    def test_lines_behind_the_last_done(self):
        text = text_with("add x a")
        for more in ["\n", "done\n", "main\n", "names a b x\n", "\n\n", "\nx"]:
            self.fails(text + more, 5)

    def test_the_first_wrong_line_is_told(self):
        self.fails("names a\nmain\nadd a 0\nadd a 01\n", 3)
        self.fails("names\nmain\nadd a 0\ndone\n", 1)
        self.fails("names a\nmain\nadd a 1\n add a 1\ndone", 4)
        self.fails(text_with("add x 0") + "x", 3)

    def test_bad_text_is_ahead_of_bad_program(self):
        self.fails("names a b c d e\nmain\nadd x 1+1\ndone\n", 3)
        self.fails("names a b c d e\nmain\n", 3)
        self.assertEqual(caught(read_program, "names a b c d e\nmain\ndone\n"), ("BadProgram", "names"))

    def test_empty_lines_and_blanks(self):
        for wrong in ["", " ", "add x  a", " add x a", "add x a ", "add  x a", "loop", "loop ", "loop a ", "loop  a", "add x", "add x a b", "add\tx a",
                      "either ", " done", "done ", "call", "call ", "call do so", "lift x", "add x ", "Add x a", "end"]:
            self.fails(text_with(wrong), 3)
        self.fails("\nnames a\nmain\ndone\n", 1)
        self.fails("names a\n\nmain\ndone\n", 2)
        self.fails("names a \nmain\ndone\n", 1)
        self.fails("names  a\nmain\ndone\n", 1)
        self.fails(" names a\nmain\ndone\n", 1)
        self.fails("names a\nmain \ndone\n", 2)
        self.fails("names a\nmain\ndone \n", 3)

    def test_the_first_line(self):
        for wrong in ["names", "names ", "name a", "names a a", "names b a", "names a,b", "names A", "names a1", "names abcdefghi", "main", "names #",
                      "a b x", "names a b aa"]:
            self.fails(f"{wrong}\nmain\ndone\n", 1)
        self.assertEqual(read_program("names a aa ab b\nmain\ndone\n").names, ("a", "aa", "ab", "b"))
        self.assertEqual(read_program("names abcdefgh\nmain\ndone\n").names, ("abcdefgh",))
        self.assertEqual(read_program("names done main names or\nmain\nadd done main\nloop or\ndone\ndone\n").main,
                         (("add", "done", ((1, (("main", 1),)),)), loop("or")))

    def test_bodies(self):
        text = "names a\nbody do\ncall it\ndone\nbody it\nadd a 1\ndone\nmain\ncall do\ndone\n"
        self.assertEqual(read_program(text).bodies, {"do": (("call", "it"),), "it": (("add", "a", ((1, ()),)),)})
        self.fails("names a\nbody it\ndone\nbody do\ndone\nmain\ndone\n", 4)
        self.fails("names a\nbody do\ndone\nbody do\ndone\nmain\ndone\n", 4)
        self.fails("names a\nmain\ndone\nbody do\ndone\n", 4)
        for wrong in ["body", "body ", "body Do", "body do so", "done", "add a 1", "names a", "mains"]:
            self.fails(f"names a\n{wrong}\ndone\nmain\ndone\n", 2)
        self.fails("names a\nmain\nbody do\ndone\ndone\n", 3)
        self.fails("names a\nmain\nmain\ndone\ndone\n", 3)
        self.fails("names a\nbody do\nmain\ndone\ndone\n", 3)

    def test_numbers(self):
        for right, terms in [("1", ((1, ()),)), ("9", ((9, ()),)), ("9*a^3", ((9, (("a", 3),)),)), ("2+a", ((2, ()), (1, (("a", 1),)))), ("a^2*b", ((1, (("a", 2), ("b", 1))),))]:
            self.assertEqual(main_of("add x " + right), (("add", "x", terms),))
        for wrong in ["0", "00", "01", "+1", "-1", "1*a", "0*a", "01*a", "2*1", "a^1", "a^0", "a^02", "a^", "a^a", "a^-2", "1.0", "2*", "*a", "a*", "2**a",
                      "1234567890", "1234567890*a", "a^1234567890", "1_0", "0x1", "a^2^2", "a*2", "^2", "1e1", "2a", "1+1", "a+1", "a^2+a", "b+a", "a+a",
                      "2*a+a", "a++b", "a+", "+", "b*a", "a*a", "a*#", "#", "A", "a;b", "(a)", "aaaaaaaaa", "10*10*a", "1^2", "a*1", "1*1"]:
            for word in ["add", "set", "lift"]:
                self.fails(text_with(f"{word} x {wrong}"), 3)
        self.fails(text_with("lift x a+b"), 3)
        self.fails(text_with("add X a"), 3)
        self.fails(text_with("add # a"), 3)
        self.fails(text_with("add abcdefghi a"), 3)

    def test_numbers_of_nine_digits_and_ten(self):
        for text in ["123456789", "999999999*a", "a^999999999", "a*b^100000000"]:
            self.assertEqual(caught(read_program, text_with(f"add x {text}")), ("BadProgram", "main"))
        for text in ["1234567890", "1000000000*a", "a^9999999999", "0123456789", "a^012345678"]:
            self.fails(text_with(f"add x {text}"), 3)

    def test_all_else_is_bad_programs(self):
        for lines in [["add y 1"], ["add x y"], ["add x a^4"], ["add x 10"], ["call do"], ["set x 3"], ["loop a", "set x a", "done"], ["loop y", "done"],
                      ["add x 1+a+b+x"], ["either", "or", "or", "or", "done"], ["orders", "also", "also", "also", "also", "done"], ["add x 1"] * 13,
                      ["loop a"] * 3 + ["done"] * 3, ["loop a", "done"] * 41]:
            self.assertEqual(caught(read_program, text_with(*lines)), ("BadProgram", "main"), lines)
        self.assertEqual(caught(read_program, "names a b c d e\nbody do\nadd z 1\ndone\nmain\ndone\n"), ("BadProgram", "names"))
        for body in ["set a a", "call do", "call am", "add z 1", "add a 10"]:
            self.assertEqual(caught(read_program, f"names a\nbody do\n{body}\ndone\nmain\nadd z 1\ndone\n"), ("BadProgram", "bodies"))
        bodies = "".join(f"body {word}\ndone\n" for word in ["a", "b", "c", "d", "e"])
        self.assertEqual(caught(read_program, f"names a\n{bodies}main\ndone\n"), ("BadProgram", "bodies"))

    def test_either_and_orders(self):
        self.assertEqual(main_of("either", "or", "done"), (("either", ((), ())),))
        self.assertEqual(main_of("orders", "add x 1", "also", "also", "loop a", "done", "done"),
                         (("orders", ((("add", "x", ((1, ()),)),), (), (loop("a"),))),))
        self.fails(text_with("either", "done"), 4)
        self.fails(text_with("orders", "add x 1", "done"), 5)
        self.fails(text_with("either", "also", "done"), 4)
        self.fails(text_with("orders", "or", "done"), 4)
        self.fails(text_with("either", "or", "also", "done"), 5)
        self.fails(text_with("or"), 3)
        self.fails(text_with("also"), 3)
        self.fails(text_with("loop a", "or", "done"), 4)
        self.fails(text_with("either", "loop a", "or", "done"), 5)
        self.fails(text_with("either", "orders", "or", "done", "done"), 5)
        self.fails("names a\nbody do\nor\ndone\nmain\ndone\n", 3)
        self.fails(text_with("either a", "or", "done"), 3)
        self.fails(text_with("either", "or a", "done"), 4)

    def test_thirty_blocks_in_one_another_and_thirty_one(self):
        for opening, closing in [(["loop a"], ["done"]), (["either"], ["or", "done"]), (["orders"], ["also", "done"])]:
            thirty = opening * 29 + closing * 29
            self.assertEqual(caught(read_program, text_with(*thirty)), ("BadProgram", "main"))
            self.fails(text_with(*opening * 30, *closing * 30), 32)
            self.fails(text_with(*opening * 29, "loop a", "done"), 32)
            self.fails(text_with(*opening * 30), 32)
        body = "names a\nbody do\n" + "loop a\n" * 29 + "done\n" * 30 + "main\ndone\n"
        block = ()
        for _ in range(29):
            block = (loop("a", *block),)
        self.assertEqual(read_program(body).bodies, {"do": block})
        self.fails("names a\nbody do\n" + "loop a\n" * 30 + "done\n" * 31 + "main\ndone\n", 32)
        # A further block of an either stands no deeper than the first one.
        deep = ["loop a"] * 28 + ["either", "or", "or", "done"] + ["either", "or", "done"] + ["done"] * 28
        self.assertEqual(caught(read_program, text_with(*deep)), ("BadProgram", "main"))
        self.fails(text_with(*["loop a"] * 28, "either", "or", "loop a"), 33)

    def test_texts_of_thousands_of_loops(self):
        self.fails("names a\nmain\n" + "loop a\n" * 5000 + "done\n" * 5001, 32)
        self.fails("names a\nbody do\n" + "either\n" * 5000, 32)
        self.assertEqual(caught(read_program, text_with(*["loop a", "done"] * 5000)), ("BadProgram", "main"))
        self.assertEqual(caught(read_program, text_with("add x " + "+".join(product_text(product(a=k)) for k in range(1, 3000)))), ("BadProgram", "main"))
        self.assertEqual(caught(read_program, text_with("either", *["or"] * 3000, "done")), ("BadProgram", "main"))
        self.fails("\n" * 5000, 1)

    def test_many_texts_with_a_change(self):
        rng = random.Random(183)
        seen = {}
        for program in [program_p(), program_r(), *some_programs(184, 300, 4)]:
            for _ in range(8):
                text = changed_text(rng, program_text(program))
                told = told_error(text)
                if told is None:
                    self.assertEqual(read_program(text), Program(*told_parts(text)))
                else:
                    self.assertEqual(caught(read_program, text), told, text)
                key = told and told[0]
                seen[key] = seen.get(key, 0) + 1
        self.assertGreater(seen[None], 100)
        self.assertGreater(seen["BadText"], 800)
        self.assertGreater(seen["BadProgram"], 50)

    def test_equal_texts_have_equal_programs(self):
        text = program_text(program_p())
        first = read_program(text)
        first.bodies["do"] = ()
        self.assertEqual(read_program(copy.copy(text)), read_program(text))


def changed_text(rng, text):
    """The text with a change to its lines or its letters."""
    lines = text.split("\n")
    at = rng.randrange(len(lines))
    kind = rng.randrange(8)
    if kind == 0:
        del lines[at]
    elif kind == 1:
        lines.insert(at, rng.choice(["", "done", "or", "also", "loop a", "either", "add a 1", "call do", "main", "names a", "body do", lines[at]]))
    elif kind == 2:
        other = rng.randrange(len(lines))
        lines[at], lines[other] = lines[other], lines[at]
    elif kind == 3:
        lines = lines[:at]
    elif kind == 4:
        words = lines[at].split(" ")
        words[rng.randrange(len(words))] = rng.choice(["a", "x", "zz", "1", "2*a", "a^2", "a+b", "1*a", "12*b", "a^1", "", "do", "a*b", "b*a"])
        lines[at] = " ".join(words)
    else:
        letters = list("\n".join(lines))
        spot = rng.randrange(len(letters) + 1)
        if kind < 7:
            letters[spot:spot + (kind == 5)] = [rng.choice("ab1029 *^+\n#x")]
        else:
            del letters[spot:spot + 1]
        return "".join(letters)
    return "\n".join(lines)


class ReadProductTest(unittest.TestCase):
    def test_right_ones(self):
        for text, found in [("1", ()), ("a", product(a=1)), ("a^2", product(a=2)), ("a*b^10*xyz", product(a=1, b=10, xyz=1)), ("a^999999999", product(a=999999999)),
                            ("or*orders", product(**{"or": 1, "orders": 1})), ("abcdefgh", product(abcdefgh=1))]:
            self.assertEqual(read_product(text), found)
            self.assertEqual(product_text(found), text)

    def test_wrong_ones(self):
        for text in ["", " ", "a ", " a", "a\n", "a*a", "b*a", "a^1", "a^0", "a^02", "a^1000000000", "2", "0", "1*a", "a*1", "2*a", "#", "#*a", "a*#", "A", "a+b", "a,b",
                     "a^", "^2", "a**b", "*", "abcdefghi", "a^-1", "-", "a^2^2", "a b", "11", "a^+2"]:
            self.assertEqual(caught(read_product, text), ("BadText", 1), text)

    def test_what_is_no_string(self):
        for odd in odd_things():
            if not isinstance(odd, str):
                self.assertEqual(caught(read_product, odd), ("BadText", 0))
        self.assertEqual(caught(read_product, b"a"), ("BadText", 0))
        self.assertEqual(caught(read_product, product(a=1)), ("BadText", 0))

    def test_many_texts(self):
        rng = random.Random(185)
        found = [0, 0]
        for _ in range(3000):
            text = "".join(rng.choice("ab1239*^*^") for _ in range(rng.randint(1, 7)))
            told = told_product(text)
            if told is None:
                self.assertEqual(caught(read_product, text), ("BadText", 1), text)
            else:
                self.assertEqual(read_product(text), told)
            found[told is not None] += 1
        self.assertGreater(min(found), 150)
        self.assertIsNone(told_sum("b+a"))
        self.assertEqual(lift("x", 2, a=1), ("lift", "x", told_sum("2*a")[0]))


if __name__ == "__main__":
    unittest.main()
