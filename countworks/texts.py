"""Texts of makings, books and things, written and read back.

What is read may be read loosely, as in the end it is held against its own text: only that very text is read.
"""

from countworks.books import is_book, need_book
from countworks.errors import BadText
from countworks.makings import MOST_DEEP, is_letter, is_making, need_making
from countworks.things import size_of

SIGNS = {"sum": "+", "pair": "."}


def written(making):
    """The text of a making."""
    kind = making[0]
    if kind == "none":
        return "0"
    if kind == "unit":
        return "1"
    if kind == "atom":
        return "'" + making[1] + "'"
    if kind == "name":
        return making[1]
    if kind in SIGNS:
        return "(" + written(making[1]) + SIGNS[kind] + written(making[2]) + ")"
    return kind + "(" + written(making[1]) + ")"


def written_book(book):
    """The text of a book."""
    return "\n".join([word + " = " + written(book[word]) for word in sorted(book)])


def written_thing(thing):
    """The text of a thing, however deep it is nested."""
    told = []
    # Brackets and blanks wait among the things that they stand between.
    ahead = [thing]
    while ahead:
        last = ahead.pop()
        if isinstance(last, tuple):
            told.append("<")
            ahead.append(">")
            for at in reversed(range(len(last))):
                ahead.append(last[at])
                if at > 0:
                    ahead.append(" ")
        else:
            told.append(str(last))
    return "".join(told)


def word_from(text, start):
    """The small letters that stand in a text from a place on."""
    end = start
    while end < len(text) and is_letter(text[end]):
        end += 1
    return text[start:end]


def read_two(text, start, deep):
    """The sum or pair whose first text begins at a place, and the place behind its bracket."""
    first, middle = read_part(text, start, deep)
    second, end = read_part(text, middle + 1, deep)
    kind = "sum" if text[middle:middle + 1] == "+" else "pair"
    return ((kind, first, second), end + 1)


def read_part(text, start, deep):
    """The making, so deep, whose text begins at a place, and the place behind its text."""
    # Brackets may be nested without end, so those that are too deep are not followed.
    if deep > MOST_DEEP:
        raise BadText("nested too deep")
    sign = text[start:start + 1]
    if sign == "0":
        return (("none",), start + 1)
    if sign == "1":
        return (("unit",), start + 1)
    if sign == "'":
        return (("atom", text[start + 1:start + 2]), start + 3)
    if sign == "(":
        return read_two(text, start + 1, deep + 1)
    word = word_from(text, start)
    end = start + len(word)
    if word in ("row", "bag", "set") and text[end:end + 1] == "(":
        part, end = read_part(text, end + 1, deep + 1)
        return ((word, part), end + 1)
    return (("name", word), end)


def need_text(thing):
    """Refuse what is no text at all."""
    if not isinstance(thing, str):
        raise BadText("no text")


def making_text(making):
    """The text of a making."""
    need_making(making)
    return written(making)


def read_making(text):
    """The making that has this text."""
    need_text(text)
    making, end = read_part(text, 0, 0)
    if not is_making(making) or written(making) != text:
        raise BadText("no text of a making")
    return making


def book_text(book):
    """The text of a book, fair or not."""
    need_book(book)
    return written_book(book)


def read_book(text):
    """The book, fair or not, that has this text."""
    need_text(text)
    book = {}
    for line in text.split("\n"):
        word, between, rule = line.partition(" = ")
        book[word] = read_making(rule)
    if not is_book(book) or written_book(book) != text:
        raise BadText("no text of a book")
    return book


def thing_text(thing):
    """The text of a thing."""
    # What has a size is a letter, a mark or a tuple of such; all else is refused there.
    size_of(thing)
    return written_thing(thing)


def read_thing(text):
    """The thing that has this text."""
    need_text(text)
    rows = [[]]
    for sign in text:
        if sign == "<":
            rows.append([])
        elif sign == ">" and len(rows) > 1:
            row = rows.pop()
            rows[-1].append(tuple(row))
        elif sign in ("0", "1"):
            rows[-1].append(int(sign))
        elif is_letter(sign):
            rows[-1].append(sign)
        elif sign != " ":
            raise BadText("no sign of a thing's text")
    if len(rows) != 1 or len(rows[0]) != 1 or written_thing(rows[0][0]) != text:
        raise BadText("no text of a thing")
    return rows[0][0]
