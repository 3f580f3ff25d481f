"""Products and sums (1.1 and 1.2)."""

import random
import unittest

from howhigh.errors import NoName
from howhigh.sums import plus, put, term_by_term, times, total, value

from helper import naive_total

A, B, SIGN = (("a", 1),), (("b", 1),), (("#", 1),)
AB = (("a", 1), ("b", 1))


def some_sum(rng, names, most=4, power=3):
    products = set()
    for _ in range(rng.randint(1, most)):
        chosen = sorted(rng.sample(names, rng.randint(0, len(names))))
        products.add(tuple((name, rng.randint(1, power)) for name in chosen))
    return tuple((rng.randint(1, 9), one) for one in sorted(products))


class ValueTest(unittest.TestCase):
    def test_the_product_of_nothing_has_the_value_one(self):
        self.assertEqual(value((), {}), 1)
        self.assertEqual(value((), {"a": 7}), 1)

    def test_powers_and_names_are_multiplied(self):
        self.assertEqual(value((("#", 2), ("a", 3), ("b", 1)), {"#": 5, "a": 2, "b": 7, "c": 11}), 25 * 8 * 7)

    def test_great_powers(self):
        for power in range(1, 70):
            self.assertEqual(value((("a", power),), {"a": 3}), 3 ** power)
        self.assertEqual(value((("a", 10 ** 29),), {"a": 1}), 1)

    def test_great_numbers(self):
        self.assertEqual(value((("a", 3),), {"a": 10 ** 29}), 10 ** 87)

    def test_the_first_name_that_lacks_is_told(self):
        for product, name in [(AB, "a"), ((("b", 1), ("c", 1)), "c"), ((("#", 1), ("b", 1)), "#")]:
            with self.assertRaises(NoName) as caught:
                value(product, {"b": 1})
            self.assertEqual(caught.exception.name, name)


class TotalTest(unittest.TestCase):
    def test_terms_are_summed_with_their_coefficients(self):
        self.assertEqual(total(((4, ()), (2, SIGN), (3, AB)), {"#": 10, "a": 2, "b": 5}), 4 + 20 + 30)

    def test_the_first_name_in_the_order_of_terms_and_pairs_is_told(self):
        terms = ((1, ()), (1, (("b", 1), ("d", 1))), (1, (("c", 1),)))
        for numbers, name in [({}, "b"), ({"b": 1}, "d"), ({"b": 1, "d": 1}, "c"), ({"c": 1, "d": 1}, "b")]:
            with self.assertRaises(NoName) as caught:
                total(terms, numbers)
            self.assertEqual(caught.exception.name, name)

    def test_numbers_are_not_changed(self):
        numbers = {"a": 2, "b": 3}
        total(((1, AB),), numbers)
        self.assertEqual(numbers, {"a": 2, "b": 3})


class SumsTest(unittest.TestCase):
    def test_plus_makes_terms_of_the_same_product_one(self):
        self.assertEqual(plus(((1, ()), (2, B)), ((3, A), (4, B))), ((1, ()), (3, A), (6, B)))

    def test_plus_orders_products(self):
        self.assertEqual(plus(((1, B),), ((1, (("b", 2),)), (1, (("c", 1),)))), ((1, B), (1, (("b", 2),)), (1, (("c", 1),))))
        self.assertEqual(plus(((1, (("a", 2),)),), ((1, AB),)), ((1, AB), (1, (("a", 2),))))
        self.assertEqual(plus(((1, A),), ((1, SIGN),)), ((1, SIGN), (1, A)))

    def test_times_multiplies_each_with_each(self):
        one = ((1, ()), (1, A))
        self.assertEqual(times(one, one), ((1, ()), (2, A), (1, (("a", 2),))))
        self.assertEqual(times(((2, SIGN),), ((3, AB),)), ((6, (("#", 1), ("a", 1), ("b", 1))),))
        self.assertEqual(times(((2, B),), ((5, (("a", 2), ("b", 1))),)), ((10, (("a", 2), ("b", 2))),))

    def test_put_replaces_names_all_at_once(self):
        self.assertEqual(put(((2, AB),), {"a": ((1, B),), "b": ((1, A),)}), ((2, AB),))
        self.assertEqual(put(((1, (("a", 2),)),), {"a": ((1, ()), (1, A))}), ((1, ()), (2, A), (1, (("a", 2),))))

    def test_put_leaves_other_names(self):
        self.assertEqual(put(((3, ()), (2, AB)), {"c": ((1, ()),)}), ((3, ()), (2, AB)))
        self.assertEqual(put(((1, AB), (1, B)), {"a": ((4, ()),)}), ((5, B),))

    def test_put_knows_the_sign(self):
        self.assertEqual(put(((1, (("#", 2), ("a", 1))),), {"#": ((1, ()), (1, SIGN))}),
                         ((2, (("#", 1), ("a", 1))), (1, (("#", 2), ("a", 1))), (1, A)))

    def test_put_with_great_powers(self):
        found = put(((1, (("a", 99),)),), {"a": ((1, A), (1, B))})
        self.assertEqual(len(found), 100)
        self.assertEqual(total(found, {"a": 1, "b": 1}), 2 ** 99)
        self.assertEqual(put(((3, (("a", 10 ** 20),)),), {"a": ((1, (("b", 2), ("c", 1))),)}),
                         ((3, (("b", 2 * 10 ** 20), ("c", 10 ** 20))),))

    def test_sums_agree_with_their_totals(self):
        rng = random.Random(3)
        for _ in range(200):
            names = ["#", "a", "b", "c"]
            one, other, third = some_sum(rng, names), some_sum(rng, names), some_sum(rng, names)
            numbers = {name: rng.randint(1, 9) for name in names}
            for found, worth in [
                    (plus(one, other), naive_total(one, numbers) + naive_total(other, numbers)),
                    (times(one, other), naive_total(one, numbers) * naive_total(other, numbers)),
                    (put(one, {"a": other, "#": third}),
                     naive_total(one, {**numbers, "a": naive_total(other, numbers), "#": naive_total(third, numbers)}))]:
                self.assertEqual(total(found, numbers), worth)
                products = [product for _, product in found]
                self.assertIs(type(found), tuple)
                self.assertEqual(products, sorted(set(products)))
                for product in products:
                    self.assertEqual([name for name, _ in product], sorted({name for name, _ in product}))

    def test_put_leaves_the_dict_of_sums(self):
        sums = {"a": ((1, B),)}
        put(((1, A),), sums)
        self.assertEqual(sums, {"a": ((1, B),)})


class TermByTermTest(unittest.TestCase):
    def test_each_term_needs_its_product_with_enough(self):
        big = ((1, ()), (2, A), (3, AB))
        for one, told in [(((2, A),), True), (((1, A),), True), (((3, A),), False), (((1, B),), False),
                          (big, True), (((1, ()), (2, A)), True), (((1, ()), (4, AB)), False), (((1, SIGN),), False)]:
            self.assertIs(term_by_term(one, big), told, one)

    def test_a_greater_value_is_not_enough(self):
        self.assertIs(term_by_term(((1, A),), ((9, (("a", 2),)),)), False)
        self.assertIs(term_by_term(((2, SIGN),), ((2, SIGN), (1, A))), True)


if __name__ == "__main__":
    unittest.main()
