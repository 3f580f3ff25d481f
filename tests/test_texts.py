"""The texts of products, sums, heights and programs (15.1 and 15.2)."""

import copy
import unittest

from helper import (add, become, call, either, lift, loop, loopy_programs, orders, product, program_p, program_r, some_programs, term,
                    told_parts, told_product)
from howhigh.heights import height, heights, top
from howhigh.looppapers import loop_paper
from howhigh.programs import Program
from howhigh.stairs import stairs
from howhigh.texts import height_text, product_text, program_text, sum_text
from howhigh.ways import ways


class ProductTextTest(unittest.TestCase):
    def test_names_and_powers(self):
        self.assertEqual(product_text(()), "1")
        self.assertEqual(product_text(product(a=1)), "a")
        self.assertEqual(product_text(product(a=2)), "a^2")
        self.assertEqual(product_text(product(a=1, b=10, xyz=1)), "a*b^10*xyz")

    def test_the_sign_for_rounds(self):
        self.assertEqual(product_text((("#", 1),)), "#")
        self.assertEqual(product_text((("#", 3), ("a", 1))), "#^3*a")

    def test_great_numbers(self):
        # No int of more digits than Python writes at once stands here, so the test writes them itself.
        digits = "7" * 4000
        self.assertEqual(product_text((("a", int(digits)),)), "a^" + digits)
        self.assertEqual(product_text((("a", 10 ** 3999), ("b", 1))), "a^1" + "0" * 3999 + "*b")


class SumTextTest(unittest.TestCase):
    def test_coefficients(self):
        self.assertEqual(sum_text((term(1),)), "1")
        self.assertEqual(sum_text((term(7),)), "7")
        self.assertEqual(sum_text((term(1, a=1),)), "a")
        self.assertEqual(sum_text((term(12, a=1),)), "12*a")
        self.assertEqual(sum_text((term(2, a=3, b=1),)), "2*a^3*b")

    def test_terms_in_order(self):
        self.assertEqual(sum_text((term(3), term(1, a=1), term(2, a=2), term(1, b=1))), "3+a+2*a^2+b")
        self.assertEqual(sum_text(((4, (("#", 1), ("a", 2))), (1, (("#", 2),)), (1, (("a", 1),)))), "4*#*a^2+#^2+a")

    def test_great_numbers(self):
        digits = "3" * 4000
        self.assertEqual(sum_text(((int(digits), (("a", 2),)),)), digits + "*a^2")
        self.assertEqual(sum_text(((int(digits), ()), (int(digits), (("x", int(digits)),)))), digits + "+" + digits + "*x^" + digits)

    def test_sums_of_loop_papers(self):
        rows = (("add", "x", 3, (("b", 1),)), ("lift", "b", 2, (("a", 2),)))
        for _, terms in loop_paper(("a", "b", "x"), rows):
            told = "+".join(("" if c == 1 and one else str(c)) + ("*" if c != 1 and one else "")
                            + "*".join(name if power == 1 else f"{name}^{power}" for name, power in one) for c, one in terms)
            self.assertEqual(sum_text(terms), told)


class HeightTextTest(unittest.TestCase):
    def test_the_example_of_the_document(self):
        self.assertEqual(height_text(height(program_p(), (), "x")), "a*b,a^2,x")

    def test_none_and_the_product_of_nothing(self):
        self.assertEqual(height_text(None), "-")
        self.assertEqual(height_text(((),)), "1")
        self.assertEqual(height_text((product(a=1),)), "a")

    def test_it_can_be_read_again(self):
        for program in some_programs(171, 60) + loopy_programs(172, 60):
            for name in program.names:
                found = top(program, name)
                text = height_text(found)
                self.assertEqual(None if text == "-" else tuple(told_product(part) for part in text.split(",")), found)


class ProgramTextTest(unittest.TestCase):
    def test_the_example_of_the_document(self):
        self.assertEqual(program_text(program_p()), "names a b x\nmain\nloop a\nadd x b\nadd b 1\ndone\ndone\n")
        self.assertEqual(program_text(program_r()), "names a b x\nmain\neither\nadd x a\nor\nadd b a\ndone\ndone\n")

    def test_an_empty_program(self):
        self.assertEqual(program_text(Program(("a",), {}, ())), "names a\nmain\ndone\n")

    def test_all_statements(self):
        program = Program(("a", "x"), {"so": (loop("a", add("x")),), "do": (), "it": (call("so"), lift("x", 2, a=1))}, (
            become("x", term(3), term(1, a=1)), add("a", term(2, a=1, x=2)), lift("a", 1), lift("x", 7), call("do"),
            orders((), (add("x"),), (call("it"), either((), (loop("x"),), (add("a"),))))))
        self.assertEqual(program_text(program), """names a x
body do
done
body it
call so
lift x 2*a
done
body so
loop a
add x 1
done
done
main
set x 3+a
add a 2*a*x^2
lift a 1
lift x 7
call do
orders
also
add x 1
also
call it
either
or
loop x
done
or
add a 1
done
done
done
""")

    def test_words_in_their_order_whatever_the_dict(self):
        one = Program(("a",), {"b": (), "a": (call("b"),)}, ())
        other = Program(("a",), {"a": (call("b"),), "b": ()}, ())
        self.assertEqual(program_text(one), program_text(other))
        self.assertEqual(program_text(one), "names a\nbody a\ncall b\ndone\nbody b\ndone\nmain\ndone\n")

    def test_against_a_second_telling(self):
        for program in some_programs(173, 300, 4) + loopy_programs(174, 100):
            self.assertEqual(told_parts(program_text(program)), (program.names, program.bodies, program.main))

    def test_forty_blocks_in_one_another(self):
        block = ()
        for _ in range(40):
            block = (loop("a", *block),)
        text = program_text(Program(("a",), {"do": block}, ()))
        self.assertEqual(text, "names a\nbody do\n" + "loop a\n" * 40 + "done\n" * 41 + "main\ndone\n")

    def test_nothing_is_changed_and_equal_programs_have_equal_texts(self):
        for program in some_programs(175, 60, 4):
            again = Program(copy.deepcopy(program.names), copy.deepcopy(program.bodies), copy.deepcopy(program.main))
            self.assertEqual(program_text(program), program_text(again))
            self.assertEqual(program, again)
            for way in ways(program)[:1]:
                found = heights(program, way)
                kept = copy.deepcopy(found)
                for products in found.values():
                    height_text(products)
                self.assertEqual(found, kept)
                for bounds in stairs(program, way)[0]:
                    for bound in bounds.values():
                        self.assertIsInstance(height_text(bound and bound[1]), str)


if __name__ == "__main__":
    unittest.main()
