"""Letters within things: how often a letter stands in the things of a size, and which letters there are."""

from countworks.books import need_of
from countworks.counts import count_at, count_table, reached
from countworks.errors import BadNumber, BadWord
from countworks.makings import inner, is_letter
from countworks.wholes import need_whole

MOST_LETTERED = 24


def need_lettered(thing):
    """Refuse what is no size at which letters are told."""
    need_whole(thing, 0, MOST_LETTERED)


def need_letter(thing):
    """Refuse what is no letter."""
    if not is_letter(thing):
        raise BadWord("no letter")


def digits_of(packed, bits, size):
    """The counts of things with none, one and so on up to size of the letter, out of the number that packs them."""
    mask = (1 << bits) - 1
    return [packed >> (bits * many) & mask for many in range(size + 1)]


def packed_often(one, size, often, bits):
    """The things of a size packed with each of them standing so often."""
    return sum(many << (bits * often * at) for at, many in enumerate(digits_of(one[size], bits, size)))


def packed_weight(one, size, sign, bits):
    """The sum of d times the things at d, each standing size / d times, for all d that divide the size."""
    total = 0
    for d in range(1, size + 1):
        if size % d == 0:
            often = size // d
            total += d * packed_often(one, d, often, bits) * (sign if often % 2 == 0 else 1)
    return total


class LetterTally:
    """The counts of a making and of all that it leads to, parted by how often a letter stands in the things.

    The counts at a size are packed into one number, that of things with one more of the letter so many bits higher.
    A sum or a product of such numbers packs the sums and products, so they are reckoned with as counts are.
    """

    def __init__(self, book, making, most, letter):
        self.book = book
        self.letter = letter
        plain = count_table(book, making, most)
        self.bits = max(max(many) for many in plain.values()).bit_length()
        self.packed = {part: [0] * (most + 1) for part in plain}
        self.weights = {part: [0] for part in plain if part[0] in ("bag", "set")}
        # The counts stand in the order in which they are known.
        for size in range(most + 1):
            for part in plain:
                self.packed[part][size] = self.packed_at(part, size)

    def packed_at(self, making, size):
        """The packed counts of a making at a size, by those that are known."""
        if making == ("atom", self.letter):
            return 1 << self.bits if size == 1 else 0
        if making in self.weights:
            return self.packed_bunches_at(making, size)
        return count_at(self.book, making, self.packed, size)

    def packed_bunches_at(self, making, size):
        """The packed counts of bags or sets of a size, by the rule of [61] for series."""
        if size == 0:
            return 1
        weights = self.weights[making]
        weights.append(packed_weight(self.packed[making[1]], size, 1 if making[0] == "bag" else -1, self.bits))
        bunches = self.packed[making]
        return sum(bunches[size - k] * weights[k] for k in range(1, size + 1)) // size

    def split_at(self, making, size):
        """The list of how many things of a size have none, one and so on up to size of the letter."""
        return digits_of(self.packed[making][size], self.bits, size)


def lowest_terms(top, below):
    """Two numbers, the second above nought, without their common divisor."""
    high, low = top, below
    while low != 0:
        high, low = low, high % low
    return (top // high, below // high)


def without_letter(making, letter):
    """A making in which the letter's atoms have no things."""
    if making == ("atom", letter):
        return ("none",)
    parts = [without_letter(part, letter) for part in inner(making)]
    return making[:1] + tuple(parts) if parts else making


def by_letter(book, making, size, letter):
    """The list of how many things of a size have none, one and so on up to size of a letter."""
    need_of(book, making)
    need_lettered(size)
    need_letter(letter)
    return LetterTally(book, making, size, letter).split_at(making, size)


def mean(book, making, size, letter):
    """How many of a letter a thing of a size has on the mean, as a tuple in lowest terms."""
    need_of(book, making)
    need_lettered(size)
    many = count_table(book, making, size)[making][size]
    # A size without things is refused ahead of what is no letter, as it is handed in first.
    if many == 0:
        raise BadNumber("a size without things")
    letters = sum(often * things for often, things in enumerate(by_letter(book, making, size, letter)))
    return lowest_terms(letters, many)


def letters_in(book, making, most):
    """The rising list of letters that things up to a size have."""
    need_of(book, making)
    need_lettered(most)
    told = count_table(book, making, most)[making]
    found = []
    for letter in sorted({part[1] for part in reached(book, making) if part[0] == "atom"}):
        # Without its atoms there are fewer things just where the letter stands in some.
        rules = {word: without_letter(rule, letter) for word, rule in book.items()}
        rest = without_letter(making, letter)
        if count_table(rules, rest, most)[rest] != told:
            found.append(letter)
    return found
