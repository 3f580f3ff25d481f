"""Products compared (section 7)."""

import copy
import itertools
import random
import unittest

from helper import are_weights, is_direction, naive_lean, naive_value, product
from howhigh.hulls import below, direction, lean, weights

A, B, C = product(a=1), product(b=1), product(c=1)


def some_vector(rng, places, most):
    kind = rng.randint(0, 3)
    if kind == 0:
        return [rng.choice([0, 0, 1, most]) for _ in range(places)]
    if kind == 1:
        return [max(0, most - rng.randint(0, 3)) for _ in range(places)]
    return [rng.randint(0, most) for _ in range(places)]


def as_product(vector, names="#abcdefgh"):
    return tuple((name, power) for name, power in zip(names, vector) if power)


def some_row(rng, most_places=5, most_long=7):
    places = rng.randint(1, most_places)
    most = rng.choice([1, 2, 3, 5, 30, 10 ** 12, 10 ** 20])
    return [as_product(some_vector(rng, places, most)) for _ in range(rng.randint(1, most_long))]


class BelowTest(unittest.TestCase):
    def judged(self, one, row):
        """Whether the product lies below the row, each answer held against the words of 7.1 and 7.2."""
        found, heading, flag = weights(one, row), direction(one, row), below(one, row)
        self.assertIs(flag, found is not None)
        self.assertIs(flag, heading is None)
        if flag:
            self.assertTrue(are_weights(one, row, found), (one, row, found))
        else:
            self.assertTrue(is_direction(one, row, heading), (one, row, heading))
        return flag

    def test_the_example_of_the_document(self):
        one, row = (("a", 1), ("b", 1)), ((("a", 2),), (("b", 2),))
        self.assertTrue(self.judged(one, row))
        first, second = weights(one, row)
        self.assertEqual(first, second)

    def test_a_row_of_one_product(self):
        self.assertTrue(self.judged(A, [A]))
        self.assertTrue(self.judged(A, (product(a=1, b=1),)))
        self.assertFalse(self.judged(product(a=1, b=1), (A,)))
        self.assertFalse(self.judged(product(a=2), (A,)))
        self.assertFalse(self.judged(A, (B,)))

    def test_the_product_of_nothing(self):
        self.assertTrue(self.judged((), ((),)))
        self.assertTrue(self.judged((), [A, ()]))
        self.assertTrue(self.judged((), [(), (), A]))
        self.assertFalse(self.judged(A, ((),)))
        self.assertFalse(self.judged(A, ((), (), B)))
        self.assertEqual(direction(A, ((),)), {"a": 1})

    def test_a_direction_has_just_the_names_that_occur(self):
        self.assertEqual(set(direction(A, (product(b=1, c=5), product(x=2)))), {"a", "b", "c", "x"})
        self.assertEqual(set(direction(product(a=3, b=3), (product(a=2, b=2, y=9),))), {"a", "b", "y"})

    def test_the_sign_counts_as_a_name(self):
        sign = (("#", 1),)
        self.assertTrue(self.judged(sign, ((("#", 2),), A)))
        self.assertFalse(self.judged(sign, (A, B)))
        self.assertEqual(set(direction((("#", 2), ("a", 1)), (A, sign))), {"#", "a"})
        self.assertTrue(self.judged((("#", 1), ("a", 1)), ((("#", 2),), product(a=2))))

    def test_doubles_in_the_row(self):
        row = [product(a=2), product(b=2), product(a=2), product(b=2)]
        self.assertTrue(self.judged(product(a=1, b=1), row))
        self.assertEqual(len(weights(product(a=1, b=1), row)), 4)
        self.assertFalse(self.judged(product(a=2, b=1), row))

    def test_on_the_edge_and_just_above_it(self):
        great = 10 ** 12
        row = (product(a=great), product(b=great))
        self.assertTrue(self.judged(product(a=1, b=great - 1), row))
        self.assertTrue(self.judged(product(a=great // 2, b=great // 2), row))
        self.assertFalse(self.judged(product(a=2, b=great - 1), row))
        self.assertFalse(self.judged(product(a=great // 2, b=great // 2 + 1), row))
        close = (product(a=great, b=great + 1), product(a=great + 1, b=great))
        self.assertTrue(self.judged(product(a=great, b=great), close))
        self.assertFalse(self.judged(product(a=great + 1, b=great + 1), close))
        huge = (product(a=10 ** 20, b=1, c=1), product(a=1, b=10 ** 20, c=1), product(a=1, b=1, c=10 ** 20))
        third = 10 ** 20 // 3
        self.assertTrue(self.judged(product(a=third, b=third, c=third), huge))
        # The third of 10 ** 20 + 2 is an integer, and it is third + 1.
        self.assertTrue(self.judged(product(a=third + 1, b=third + 1, c=third + 1), huge))
        self.assertFalse(self.judged(product(a=third + 1, b=third + 2, c=third + 1), huge))

    def test_many_names(self):
        names = [letter * k for letter in "abcdef" for k in (1, 2, 3)]
        row = [((name, 18),) for name in sorted(names)]
        self.assertTrue(self.judged(tuple((name, 1) for name in sorted(names)), row))
        self.assertFalse(self.judged(tuple((name, 1 + (name == "bb")) for name in sorted(names)), row))

    def test_all_small_ones(self):
        every = [as_product(vector, "ab") for vector in itertools.product(range(4), repeat=2)]
        for one in every:
            for row in itertools.combinations(every, 2):
                flag = self.judged(one, row)
                p, q, r = [(dict(other).get("a", 0), dict(other).get("b", 0)) for other in (one, *row)]
                reached = any(6 * p[0] <= k * q[0] + (6 - k) * r[0] and 6 * p[1] <= k * q[1] + (6 - k) * r[1] for k in range(7))
                self.assertEqual(flag, reached)

    def test_random_ones(self):
        rng = random.Random(71)
        seen = [0, 0]
        for _ in range(4000):
            row = some_row(rng)
            one = as_product(some_vector(rng, 5, max([2] + [power // rng.choice([1, 2, 3]) for other in row for _, power in other])))
            if rng.randint(0, 2) == 0:
                one = rng.choice(row)
                one = tuple((name, max(1, power - rng.randint(0, 2))) for name, power in one)
            seen[self.judged(one, rng.choice([row, tuple(row)]))] += 1
        self.assertGreater(min(seen), 500)

    def test_a_value_is_at_most_the_greatest_of_those_above(self):
        rng = random.Random(72)
        for _ in range(500):
            row = [as_product([rng.randint(0, 3) for _ in range(3)]) for _ in range(4)]
            one = as_product([rng.randint(0, 2) for _ in range(3)])
            if below(one, row):
                for _ in range(10):
                    numbers = {name: rng.randint(1, 9) for name in "#ab"}
                    self.assertLessEqual(naive_value(one, numbers), max(naive_value(other, numbers) for other in row))

    def test_nothing_is_changed_and_equal_ones_have_equal_answers(self):
        rng = random.Random(73)
        for _ in range(100):
            row, one = some_row(rng), some_row(rng)[0]
            kept = copy.deepcopy((one, row))
            found = (below(one, row), weights(one, row), direction(one, row), lean(row))
            self.assertEqual((one, row), kept)
            self.assertEqual(found, (below(one, tuple(row)), weights(one, tuple(row)), direction(one, tuple(row)), lean(tuple(row))))

    def test_each_direction_is_new(self):
        first = direction(A, (B,))
        kept = dict(first)
        first.clear()
        self.assertEqual(direction(A, (B,)), kept)


class LeanTest(unittest.TestCase):
    def test_a_single_one_stays(self):
        for one in [(), A, product(a=5, b=3)]:
            self.assertEqual(lean([one]), (one,))
            self.assertEqual(lean((one, one, one)), (one,))

    def test_those_below_all_the_others_together_go(self):
        self.assertEqual(lean([product(a=1, b=1), product(a=2), product(b=2)]), (product(a=2), product(b=2)))
        self.assertEqual(lean([product(a=1, b=1), product(a=2), product(b=1)]), (product(a=1, b=1), product(a=2)))
        self.assertEqual(lean([(), A]), (A,))
        self.assertEqual(lean([B, A, C]), (A, B, C))
        self.assertEqual(lean([product(a=3), product(a=2), product(a=1, b=1)]), (product(a=1, b=1), product(a=3)))

    def test_it_is_ascending_and_counts_the_sign(self):
        self.assertEqual(lean([B, (("#", 1),), A, (("#", 1),)]), ((("#", 1),), A, B))
        self.assertEqual(lean([product(b=2), product(a=1, b=1), product(a=10), product(a=9, b=1)]),
                         (product(a=9, b=1), product(a=10), product(b=2)))

    def test_great_powers_close_together(self):
        great = 10 ** 12
        self.assertEqual(lean([product(a=great, b=1), product(a=great + 1), product(a=great - 1, b=2)]),
                         (product(a=great - 1, b=2), product(a=great + 1)))
        self.assertEqual(lean([product(a=great, b=1), product(a=great + 1), product(a=great - 1, b=1)]),
                         (product(a=great, b=1), product(a=great + 1)))
        self.assertEqual(lean([product(a=10 ** 20, b=10 ** 20), product(a=10 ** 20 + 1, b=10 ** 20 - 1), product(a=10 ** 20 - 1, b=10 ** 20 + 1)]),
                         (product(a=10 ** 20 - 1, b=10 ** 20 + 1), product(a=10 ** 20 + 1, b=10 ** 20 - 1)))

    def test_against_the_words(self):
        rng = random.Random(74)
        for _ in range(1200):
            row = some_row(rng, 5, 10)
            self.assertEqual(lean(rng.choice([row, tuple(row)])), naive_lean(below, row), row)

    def test_the_lean_of_the_lean_is_the_lean(self):
        rng = random.Random(75)
        for _ in range(200):
            row = some_row(rng, 4, 12)
            found = lean(row)
            self.assertEqual(lean(found), found)
            self.assertTrue(all(below(one, found) for one in row))
            again = row + row
            rng.shuffle(again)
            self.assertEqual(lean(again), found)

    def test_many_products(self):
        rng = random.Random(76)
        row = [as_product([rng.randint(0, 60) for _ in range(4)]) for _ in range(400)]
        found = lean(row)
        self.assertTrue(all(below(one, found) for one in row))
        self.assertTrue(all(not below(one, [other for other in found if other != one]) for one in found))
        circle = [as_product([k * k, 2 * 100 * k, 10000 - k * k], "abc") for k in range(101)]
        self.assertGreater(len(lean(circle)), 60)
        self.assertEqual(lean(circle), naive_lean(below, circle))


if __name__ == "__main__":
    unittest.main()
