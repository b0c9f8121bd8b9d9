"""Products: whether none of them has more figures than can be kept, whichever numbers are multiplied ([J4])."""

from math import gcd

from everyexact.errors import Unfit
from everyexact.powers import goes, power, stripped


def keepable(base, figures, number):
    """Whether number is m * base ** k for some m of so many figures in base."""
    return abs(stripped(base, number)) < power(base, figures)


def products_exact(base, figures, numbers):
    """Whether the products of all lots of numbers are keepable; Unfit if a square divides base."""
    return bad_lot(base, figures, numbers) is None


def shares(base, numbers):
    """(prime, above, below) for each prime of base: its share is above / below; Unfit if a square divides base."""
    return tuple([share(base, prime, numbers) for prime in primes_of(base)])


def bad_lot(base, figures, numbers):
    """None if products are exact, otherwise a lot whose product is not keepable; Unfit if a square divides base."""
    end = power(base, figures)
    for prime, above, below in shares(base, numbers):
        if above >= below * end:
            return heavy_places(base, prime, numbers)
    return None


def primes_of(base):
    """The primes that divide base, ascending; Unfit if the square of one does."""
    primes = []
    rest = base
    prime = 2
    while rest > 1:
        if rest % prime == 0:
            primes.append(prime)
            rest = rest // prime
            if rest % prime == 0:
                raise Unfit()
        prime += 1
    return primes


def share(base, prime, numbers):
    """The triple that shares tells for this prime."""
    above = below = 1
    for place in heavy_places(base, prime, numbers):
        above = above * abs(numbers[place])
        below = below * divisor(base, prime, numbers[place])
    common = gcd(above, below)
    return (prime, above // common, below // common)


def heavy_places(base, prime, numbers):
    """The lot of all places whose numbers have a weight above 1 for this prime."""
    return tuple([place for place, number in enumerate(numbers) if abs(number) > divisor(base, prime, number)])


def divisor(base, prime, number):
    """What the absolute value of number is divided by in its weight."""
    return power(base, goes(prime, number))
