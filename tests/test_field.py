import unittest

from asktally.field import inverse_of, is_field, is_number


def odd_primes_below(bound):
    sieve = [True] * bound
    for number in range(2, bound):
        if sieve[number]:
            for other in range(number * number, bound, number):
                sieve[other] = False
    return [number for number in range(3, bound) if sieve[number]]


class IsField(unittest.TestCase):
    def test_small_numbers(self):
        primes = odd_primes_below(3000)
        for number in range(-3000, 3000):
            self.assertIs(is_field(number), number in primes)

    def test_named_numbers(self):
        for number in (-999983, -7, -3, -2, -1, 0, 1, 2, 4, 9, 999981, 994009, 999999):
            self.assertIs(is_field(number), False, number)
        for number in (3, 5, 7, 997, 999983):
            self.assertIs(is_field(number), True, number)

    def test_squares_and_products_of_primes(self):
        primes = odd_primes_below(1000)
        for prime in primes:
            self.assertIs(is_field(prime * prime), False)
            self.assertIs(is_field(3 * prime), False)

    def test_the_last_numbers(self):
        primes = odd_primes_below(1000000)[-50:]
        for number in range(primes[0], 1000000):
            self.assertIs(is_field(number), number in primes)


class InverseOf(unittest.TestCase):
    def told(self, a, p):
        told = inverse_of(a, p)
        self.assertIs(told.__class__, int)
        self.assertTrue(1 <= told <= p - 1, (a, p))
        self.assertEqual(a * told % p, 1, (a, p))

    def test_each_number_of_small_fields(self):
        for p in (3, 5, 7, 11, 13, 101, 997):
            for a in range(1, p):
                self.told(a, p)

    def test_a_large_field(self):
        p = 999983
        self.assertEqual(inverse_of(1, p), 1)
        self.assertEqual(inverse_of(2, p), 499992)
        self.assertEqual(inverse_of(p - 1, p), p - 1)
        for a in list(range(1, 200)) + list(range(p - 200, p)) + list(range(1, p, 9973)):
            self.told(a, p)

    def test_an_inverse_turned_round_again(self):
        for a in range(1, 101):
            self.assertEqual(inverse_of(inverse_of(a, 101), 101), a)


class IsNumber(unittest.TestCase):
    def test_numbers_of_the_field(self):
        for p in (3, 7, 999983):
            for number in (0, 1, 2, p - 1):
                self.assertIs(is_number(number, p), True)

    def test_others(self):
        for p in (3, 7, 999983):
            for value in (-1, -p, p, p + 1, 999999999999, True, False, None, "1", "", (1,), [1], 1.0):
                self.assertIs(is_number(value, p), False)


if __name__ == "__main__":
    unittest.main()
