"""Rings of letters: rounds, simple ones, how many there are, and how texts fall into them."""

from countworks.errors import BadWord
from countworks.makings import is_letter
from countworks.wholes import MOST_SIZE, need_room, need_whole

MOST_KINDS = 4
MOST_TEXT = 60
MOST_RING = 12


def need_text(thing):
    """Refuse what is no text of up to 60 small letters."""
    if not isinstance(thing, str) or len(thing) > MOST_TEXT or not all(is_letter(sign) for sign in thing):
        raise BadWord("no text of up to 60 small letters")


def need_letters(thing):
    """Refuse what is no text of 1 to 4 rising small letters."""
    if not isinstance(thing, str) or not 1 <= len(thing) <= MOST_KINDS:
        raise BadWord("no text of 1 to 4 letters")
    if not all(is_letter(sign) for sign in thing) or not all(left < right for left, right in zip(thing, thing[1:])):
        raise BadWord("no rising small letters")


def divisors(size):
    """The numbers that divide a size, rising."""
    return [d for d in range(1, size + 1) if size % d == 0]


def texts_at(kinds, size):
    """How many texts of a size there are of so many letters."""
    many = 1
    for k in range(size):
        many *= kinds
    return many


def simple_counts(kinds, size):
    """For each number that divides a size how many simple rounds of that size there are of so many letters."""
    told = {}
    for d in divisors(size):
        # Each text is a simple round turned about, as often as it takes: those of lesser sizes are taken off.
        lesser = sum(k * told[k] for k in told if d % k == 0)
        told[d] = (texts_at(kinds, d) - lesser) // d
    return told


def next_simple(letters, text, most):
    """The next simple round behind a text of up to so many letters, or an empty text."""
    grown = (text * most)[:most].rstrip(letters[-1])
    if grown == "":
        return ""
    return grown[:-1] + letters[letters.index(grown[-1]) + 1]


def simple_up_to(letters, most):
    """The rising list of all simple rounds of up to so many letters."""
    told = []
    text = letters[0]
    while text != "":
        told.append(text)
        text = next_simple(letters, text, most)
    return told


def first_fall(text):
    """The size of the longest simple round with which a text begins, and how often it stands there side by side."""
    size = 1
    at = 1
    # As long as the text goes on as it began, the round stands again; where it rises, all so far is one round.
    while at < len(text) and text[at - size] <= text[at]:
        if text[at - size] < text[at]:
            size = at + 1
        at += 1
    return (size, at // size)


def round_of(text):
    """The least of all texts made of a text by putting some of its beginning behind."""
    need_text(text)
    return min([text[k:] + text[:k] for k in range(len(text))], default="")


def rings(letters, size):
    """The rising list of all rounds of a size."""
    need_letters(letters)
    need_whole(size, 1, MOST_RING)
    need_room(how_many_rings(letters, size))
    return [text * (size // len(text)) for text in simple_up_to(letters, size) if size % len(text) == 0]


def how_many_rings(letters, size):
    """How many rounds of a size there are."""
    need_letters(letters)
    need_whole(size, 1, MOST_SIZE)
    return sum(simple_counts(len(letters), size).values())


def simple_rings(letters, size):
    """The rising list of all simple rounds of a size."""
    need_letters(letters)
    need_whole(size, 1, MOST_RING)
    need_room(how_many_simple(letters, size))
    return [text for text in simple_up_to(letters, size) if len(text) == size]


def how_many_simple(letters, size):
    """How many simple rounds of a size there are."""
    need_letters(letters)
    need_whole(size, 1, MOST_SIZE)
    return simple_counts(len(letters), size)[size]


def falls(text):
    """The list of simple rounds, none less than the one behind it, that are the text side by side."""
    need_text(text)
    told = []
    start = 0
    while start < len(text):
        size, often = first_fall(text[start:])
        told.extend([text[start:start + size]] * often)
        start += size * often
    return told
