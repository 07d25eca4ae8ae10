import unittest

from asktally.rows import both_ends, value_at


def rule(factors, p):
    return lambda x: sum(factor * x ** k for k, factor in enumerate(factors)) % p


class ValueAt(unittest.TestCase):
    def told(self, values, r, p, value):
        for handed in (list(values), tuple(values)):
            told = value_at(handed, r, p)
            self.assertEqual(told, value, (values, r, p))
            self.assertIs(told.__class__, int)

    def test_one_number_stands_for_itself_everywhere(self):
        for p in (3, 7, 101):
            for value in (0, 1, p - 1):
                for r in range(p):
                    self.told([value], r, p, value)
        self.told([5], 999982, 999983, 5)

    def test_two_numbers_stand_for_a_line(self):
        for r in range(7):
            self.told([3, 5], r, 7, (3 + 2 * r) % 7)
            self.told([5, 3], r, 7, (5 - 2 * r) % 7)
            self.told([4, 4], r, 7, 4)

    def test_a_known_rule(self):
        self.told([0, 1, 4], 3, 101, 9)
        self.told([0, 1, 4], 100, 101, 1)
        self.told([0, 1, 8, 27], 4, 101, 64)
        self.told([1, 0, 0], 3, 7, 1)
        self.told([1, 0, 0], 6, 7, 3)

    def test_at_the_rows_own_places(self):
        values = [6, 0, 3, 3, 5]
        for p in (7, 11, 999983):
            for place, value in enumerate(values):
                self.told(values, place, p, value)

    def test_as_many_numbers_as_the_field_has(self):
        for p in (3, 5, 7, 11, 101):
            values = [(place * place * 3 + place // 2 + 2) % p for place in range(p)]
            for place, value in enumerate(values):
                self.told(values, place, p, value)

    def test_each_length_and_each_place_of_small_fields(self):
        for p in (3, 5, 7, 13):
            for length in range(1, p + 1):
                for seed in range(5):
                    g = rule([(seed + k * k + 2) % p for k in range(length)], p)
                    values = [g(x) for x in range(length)]
                    for r in range(p):
                        self.told(values, r, p, g(r))

    def test_large_field(self):
        p = 999983
        g = rule([k * k + 1 for k in range(31)], p)
        values = [g(x) for x in range(31)]
        for r in (0, 1, 30, 31, 32, 1000, 499991, p - 2, p - 1):
            self.told(values, r, p, g(r))

    def test_a_long_row(self):
        p = 10007
        g = rule([3, 0, 5], p)
        values = [g(x) for x in range(p - 1)]
        self.told(values, p - 1, p, g(p - 1))

    def test_a_row_with_more_numbers_than_its_rule_needs(self):
        g = rule([2, 9], 11)
        for length in range(2, 12):
            for r in range(11):
                self.told([g(x) for x in range(length)], r, 11, g(r))

    def test_values_stay_as_they_are(self):
        values = [3, 5, 1]
        first = value_at(values, 6, 7)
        both_ends(values, 7)
        self.assertEqual(values, [3, 5, 1])
        self.assertEqual(value_at(values, 6, 7), first)


class BothEnds(unittest.TestCase):
    def told(self, values, p, number):
        for handed in (list(values), tuple(values)):
            told = both_ends(handed, p)
            self.assertEqual(told, number, (values, p))
            self.assertIs(told.__class__, int)

    def test_one_number_counts_twice(self):
        self.told([0], 7, 0)
        self.told([3], 7, 6)
        self.told([4], 7, 1)
        self.told([6], 7, 5)
        self.told([999982], 999983, 999981)

    def test_two_and_more(self):
        self.told([3, 2], 7, 5)
        self.told([3, 4], 7, 0)
        self.told([6, 6], 7, 5)
        self.told([3, 2, 6], 7, 5)
        self.told([1, 2, 0, 4, 5, 6, 3], 7, 3)
        self.told([2, 2, 1], 3, 1)

    def test_as_the_values_at_both_places(self):
        for p in (3, 5, 7):
            for length in range(1, p + 1):
                values = [(place * 2 + 1) % p for place in range(length)]
                self.told(values, p, (value_at(values, 0, p) + value_at(values, 1, p)) % p)


if __name__ == "__main__":
    unittest.main()
