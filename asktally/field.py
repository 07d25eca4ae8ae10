"""Fields and inverses."""


def is_field(number):
    if number < 3 or number % 2 == 0:
        return False
    divisor = 3
    while divisor * divisor <= number:
        if number % divisor == 0:
            return False
        divisor = divisor + 2
    return True


# Euclid's steps: each rest is, but for a multiple of p, a times its factor; the rest 1 comes last ahead of 0.
def inverse_of(a, p):
    former = p
    former_factor = 0
    rest = a % p
    factor = 1
    while rest != 1:
        times = former // rest
        lesser = former - times * rest
        lesser_factor = (former_factor - times * factor) % p
        former = rest
        former_factor = factor
        rest = lesser
        factor = lesser_factor
    return factor


# Python counts True and False among its whole numbers; here they are none.
def is_number(value, p):
    return isinstance(value, int) and not isinstance(value, bool) and 0 <= value < p
