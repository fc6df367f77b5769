"""Tuples of factors, from that of size 0 on, and pairs of them in lowest terms."""

# The prime 2 ** 61 - 1: great enough that a second modulus is hardly ever needed.
FIRST_MODULUS = 2305843009213693951


def trimmed(factors):
    """The factors as a tuple that does not end with nought."""
    many = len(factors)
    while many > 0 and factors[many - 1] == 0:
        many -= 1
    return tuple(factors[:many])


def plus(one, other):
    """Two tuples of factors added."""
    most = max(len(one), len(other))
    longer = [list(factors) + [0] * (most - len(factors)) for factors in (one, other)]
    return trimmed([left + right for left, right in zip(longer[0], longer[1])])


def minus(one, other):
    """One tuple of factors less another one."""
    return plus(one, [-factor for factor in other])


def product(one, other):
    """Two tuples of factors times each other."""
    told = [0] * (len(one) + len(other))
    # Many factors may be nought, as those of a great power alone.
    heavy = [(at, factor) for at, factor in enumerate(other) if factor != 0]
    for at, left in enumerate(one):
        if left != 0:
            for place, right in heavy:
                told[at + place] += left * right
    return trimmed(told)


def quotient(one, other):
    """One tuple of factors parted by another one that begins with 1, or None where something is left over."""
    rest = list(one)
    told = []
    for at in range(len(one) - len(other) + 1):
        factor = rest[at]
        told.append(factor)
        if factor != 0:
            for place, part in enumerate(other):
                rest[at + place] -= factor * part
    return None if any(rest) else tuple(told)


def inverse(number, modulus):
    """What a number must be taken times to come to 1 by the modulus, or None where nothing does so."""
    high, low = modulus, number % modulus
    above, below = 0, 1
    while low != 0:
        often = high // low
        high, low = low, high - often * low
        above, below = below, above - often * below
    return above % modulus if high == 1 else None


def scaled(factors, by, modulus):
    """Factors taken times a number, by the modulus."""
    return [factor * by % modulus for factor in factors]


def rest_by(one, other, modulus):
    """What is left of one list of factors parted by another one that ends with 1, by the modulus."""
    rest = list(one)
    while len(rest) >= len(other):
        factor = rest.pop()
        start = len(rest) + 1 - len(other)
        if factor != 0:
            for place, part in enumerate(other[:-1]):
                rest[start + place] = (rest[start + place] - factor * part) % modulus
    return trimmed(rest)


def common_by(one, other, modulus):
    """The greatest common divisor of two lists of factors by the modulus, beginning with 1, or None if it fails."""
    while len(other) > 0:
        by = inverse(other[-1], modulus)
        if by is None:
            return None
        divisor = scaled(other, by, modulus)
        one, other = divisor, rest_by(one, divisor, modulus)
    by = inverse(one[0], modulus)
    return None if by is None else scaled(one, by, modulus)


def guessed_divisor(top, below, modulus):
    """What must be the greatest common divisor if it divides both, or None if the modulus does not serve."""
    start = 0
    # No power of the variable divides what begins with 1, so those in the top need not be tried.
    while top[start] == 0:
        start += 1
    # What is below keeps its length even where its last factor is nought by the modulus, which then does not serve.
    found = common_by(scaled(top[start:], 1, modulus), scaled(below, 1, modulus), modulus)
    if found is None:
        return None
    return [factor if factor * 2 < modulus else factor - modulus for factor in found]


def lowest(top, below):
    """A pair of factors in lowest terms, for which below begins with 1."""
    top, below = trimmed(top), trimmed(below)
    if len(top) == 0:
        return ((), (1,))
    modulus = FIRST_MODULUS
    while True:
        divisor = guessed_divisor(top, below, modulus)
        if divisor is not None:
            pair = (quotient(top, divisor), quotient(below, divisor))
            # By a modulus the divisor is never shorter than the true one, so if it divides both, it is that one.
            if pair[0] is not None and pair[1] is not None:
                return pair
        # Only some primes make this fail, and no two moduli have one in common: each is 1 by all those ahead of it.
        modulus = modulus * (modulus - 1) + 1
