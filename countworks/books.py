"""Books of rules: what may be bare, which names stand bare, which books are fair."""

from countworks.errors import BadBook, BadMaking, NoRule
from countworks.makings import is_making, is_word, need_making, parts_within, words_within

MOST_WORDS = 8


def is_book(thing):
    """Whether a thing is a book: 1 to 8 words to makings, each word that is named having one."""
    if not isinstance(thing, dict) or not 1 <= len(thing) <= MOST_WORDS:
        return False
    if not all(is_word(word) and is_making(rule) for word, rule in thing.items()):
        return False
    return all(lacking(thing, rule) == [] for rule in thing.values())


def lacking(book, making):
    """The words, rising, that a making names and the book has not."""
    return [word for word in words_within(making) if word not in book]


def need_book(thing):
    """Refuse what is no book."""
    if not is_book(thing):
        raise BadBook(None)


def need_rules(book, making):
    """Refuse a making that names a word that the book has not."""
    lacks = lacking(book, making)
    if lacks:
        raise NoRule(lacks[0])


def is_bare(bare, making):
    """Whether a making may be bare if just the words in bare may."""
    kind = making[0]
    if kind == "name":
        return making[1] in bare
    if kind == "sum":
        return is_bare(bare, making[1]) or is_bare(bare, making[2])
    if kind == "pair":
        return is_bare(bare, making[1]) and is_bare(bare, making[2])
    return kind in ("unit", "row", "bag", "set")


def bare_words(book):
    """The words of a book that may be bare, as a dict of True."""
    bare = {}
    # Only what follows from rules may be bare, so words join until none follows any more.
    joined = True
    while joined:
        joined = False
        for word, rule in book.items():
            if word not in bare and is_bare(bare, rule):
                bare[word] = True
                joined = True
    return bare


def standing_bare(bare, making):
    """The words that stand bare in a making, some more than once."""
    kind = making[0]
    if kind == "name":
        return [making[1]]
    if kind == "sum":
        return standing_bare(bare, making[1]) + standing_bare(bare, making[2])
    if kind == "pair":
        first = standing_bare(bare, making[1]) if is_bare(bare, making[2]) else []
        second = standing_bare(bare, making[2]) if is_bare(bare, making[1]) else []
        return first + second
    if kind in ("row", "bag", "set"):
        return standing_bare(bare, making[1])
    return []


def holds_bare(bare, making):
    """Whether a row, bag or set in a making is of a making that may be bare."""
    return any(part[0] in ("row", "bag", "set") and is_bare(bare, part[1]) for part in parts_within(making))


def is_in_ring(leads, word):
    """Whether a word comes back to itself by the words that leads has for each one."""
    reached = {}
    ahead = list(leads[word])
    while ahead:
        found = ahead.pop()
        if found not in reached:
            reached[found] = True
            ahead.extend(leads[found])
    return word in reached


def unfair_words(book):
    """The words that make a book unfair, rising."""
    bare = bare_words(book)
    leads = {word: standing_bare(bare, rule) for word, rule in book.items()}
    return [word for word in sorted(book) if holds_bare(bare, book[word]) or is_in_ring(leads, word)]


def may_be_bare(book, making):
    """Whether a making has a thing of size 0."""
    need_book(book)
    need_making(making)
    need_rules(book, making)
    return is_bare(bare_words(book), making)


def bare_names(book, making):
    """The rising list of names that stand bare in a making."""
    need_book(book)
    need_making(making)
    need_rules(book, making)
    return sorted(set(standing_bare(bare_words(book), making)))


def unfair(book):
    """The rising list of words whose rules make the book unfair."""
    need_book(book)
    return unfair_words(book)


def need_fair(book):
    """Refuse what is no book, or an unfair one."""
    wrong = unfair(book)
    if wrong:
        raise BadBook(wrong)


def need_of(book, making):
    """Refuse what is no fair book, and a making that is not of it."""
    need_fair(book)
    need_making(making)
    # BadMaking is told ahead of NoRule, so a word that lacks counts as not bare here.
    if holds_bare(bare_words(book), making):
        raise BadMaking("a row, bag or set of a making that may be bare")
    need_rules(book, making)
