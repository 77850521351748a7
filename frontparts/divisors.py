"""Divisors of polynomials in one letter. A polynomial is a list of numbers, that of the k-th power at k.

The last number is not 0; [] is nothing. The search for front parts asks these for its shadows.
"""

from frontparts.bases import basis_of, listed
from frontparts.tables import inverse


def divisors(poly, clock):
    """All divisors, with the last number 1, of a polynomial that is not nothing."""
    found = [[1]]
    if len(poly) == 1:
        return found
    for prime, many in primes(poly, clock):
        longer = found
        for _ in range(many):
            longer = [product_of(one, prime, clock) for one in longer]
            found = found + longer
    return found


def primes(poly, clock):
    """The pairs of the primes of a polynomial that is no number, and how often each divides it."""
    found = []
    for part in prime_powers(poly, clock):
        prime = root_of(part, clock)
        found.append((prime, (len(part) - 1) // (len(prime) - 1)))
    return found


def prime_powers(poly, clock):
    """The powers of unlike primes whose product is the polynomial, the last number of each being 1 (Berlekamp).

    By each power a steady polynomial leaves one number, and some steady one leaves unlike ones by two of them.
    """
    parts = [monic(poly, clock)]
    for steady in steady_polys(poly, clock):
        shifted = [shift(steady, number, clock) for number in range(clock)]
        commons = [common(part, other, clock) for part in parts for other in shifted]
        parts = [part for part in commons if len(part) > 1]
    return parts


def shift(poly, number, clock):
    """The polynomial less a number."""
    return trimmed([poly[0] - number] + poly[1:], clock)


def steady_polys(poly, clock):
    """Polynomials of which all others are sums that have the same rest by poly as their clock-th power."""
    many = len(poly) - 1
    columns = []
    step = [0] * clock + [1]
    rest = [1]
    for place in range(many):
        less_self = [rest[k] if k < len(rest) else 0 for k in range(many)]
        less_self[place] -= 1
        told = [0] * place + [1] + [0] * (many - place - 1)
        columns.append([{"": number % clock} if number % clock else {} for number in less_self + told])
        rest = rest_of(product_of(rest, step, clock), poly, clock)
    basis = basis_of(columns, clock)
    steady = [column for leads in basis[many:] for column in listed(leads)]
    return [[table.get("", 0) for table in column[many:]] for column in steady]


def root_of(poly, clock):
    """The prime of which the polynomial is a power."""
    slope = slope_of(poly, clock)
    while not slope:
        poly = poly[::clock]
        slope = slope_of(poly, clock)
    return quotient_of(poly, common(poly, slope, clock), clock)


def slope_of(poly, clock):
    """The derivative."""
    return trimmed([k * poly[k] for k in range(1, len(poly))], clock)


def trimmed(poly, clock):
    """The polynomial with its numbers reckoned by the clock."""
    found = [number % clock for number in poly]
    while found and found[-1] == 0:
        found.pop()
    return found


def monic(poly, clock):
    """The polynomial, which is not nothing, with the last number 1."""
    turn = inverse(poly[-1], clock)
    return [number * turn % clock for number in poly]


def product_of(one, other, clock):
    """The product of two polynomials that are not nothing."""
    found = [0] * (len(one) + len(other) - 1)
    for j, number in enumerate(one):
        for k, amount in enumerate(other):
            found[j + k] += number * amount
    return trimmed(found, clock)


def quotient_of(poly, other, clock):
    """How often the other polynomial is in the first one."""
    return divided_by(poly, other, clock)[0]


def rest_of(poly, other, clock):
    """What is left of the first polynomial then."""
    return divided_by(poly, other, clock)[1]


def divided_by(poly, other, clock):
    """The pair of quotient and rest."""
    turn = inverse(other[-1], clock)
    left = list(poly)
    found = []
    for start in range(len(poly) - len(other), -1, -1):
        number = left[start + len(other) - 1] * turn % clock
        found.append(number)
        for k, amount in enumerate(other):
            left[start + k] -= number * amount
    return trimmed(found[::-1], clock), trimmed(left, clock)


def common(one, other, clock):
    """The greatest common divisor, with the last number 1, of two polynomials of which the first is not nothing."""
    while other:
        rest = rest_of(one, other, clock)
        one = other
        other = rest
    return monic(one, clock)
