"""Words that avoid words: texts of letters in which none of some words stands."""

from countworks.errors import BadWord
from countworks.makings import is_word
from countworks.rings import need_letters
from countworks.wholes import need_room, need_whole

MOST_BAD = 6
MOST_LISTED_SIZE = 12
MOST_COUNTED_SIZE = 60


def need_bad(letters, thing):
    """Refuse what is no list of up to 6 words of the letters."""
    if not isinstance(thing, list) or len(thing) > MOST_BAD or not all(is_word(word) for word in thing):
        raise BadWord("no list of up to 6 words")
    if not all(letter in letters for word in thing for letter in word):
        raise BadWord("a word of other letters")


def ends_badly(text, bad):
    """Whether one of the words stands at the end of a text."""
    return any(text.endswith(word) for word in bad)


def end_kept(text, bad):
    """The longest end of a text with which one of the words begins: all that what follows hangs on."""
    for start in range(len(text)):
        if any(word.startswith(text[start:]) for word in bad):
            return text[start:]
    return ""


def ways_on(letters, bad):
    """For each end that is kept the ends that one letter more leads to, without those where a word stands."""
    ways = {}
    ahead = [""]
    while ahead:
        end = ahead.pop()
        if end not in ways:
            grown = [end + letter for letter in letters]
            ways[end] = {text[-1]: end_kept(text, bad) for text in grown if not ends_badly(text, bad)}
            ahead.extend(list(ways[end].values()))
    return ways


def going_counts(ways, size):
    """For each number of letters up to size a dict: for each end how many ways there are to go on by so many."""
    told = [{end: 1 for end in ways}]
    for k in range(size):
        told.append({end: sum(told[k][after] for after in ways[end].values()) for end in ways})
    return told


def letter_at(onward, many, number):
    """The letter by which the text with a number goes on, the end behind it, and the number among those from there."""
    letters = list(onward)
    at = 0
    while number >= many[onward[letters[at]]]:
        number -= many[onward[letters[at]]]
        at += 1
    return (letters[at], onward[letters[at]], number)


def text_at(ways, many, size, number):
    """The text of a size ahead of which there are so many, of which there must be more than that."""
    text = ""
    end = ""
    for left in reversed(range(size)):
        letter, end, number = letter_at(ways[end], many[left], number)
        text += letter
    return text


def need_avoiding(letters, bad, size, most):
    """Refuse what are no letters, no words of them, or no size from 0 to most."""
    need_letters(letters)
    need_bad(letters, bad)
    need_whole(size, 0, most)


def avoiders(letters, bad, size):
    """The rising list of texts of a size in which none of the words stands."""
    need_avoiding(letters, bad, size, MOST_LISTED_SIZE)
    need_room(how_many_avoid(letters, bad, size))
    texts = [""]
    for k in range(size):
        grown = [text + letter for text in texts for letter in letters]
        texts = [text for text in grown if not ends_badly(text, bad)]
    return texts


def how_many_avoid(letters, bad, size):
    """How many texts of a size there are in which none of the words stands."""
    need_avoiding(letters, bad, size, MOST_COUNTED_SIZE)
    return going_counts(ways_on(letters, bad), size)[size][""]


def is_ended(letters, bad):
    """Whether there are none from some size on."""
    need_letters(letters)
    need_bad(letters, bad)
    ways = ways_on(letters, bad)
    # A text of as many letters as there are ends comes to one of them twice, and can go round there for ever.
    return going_counts(ways, len(ways))[len(ways)][""] == 0


def first_avoider(letters, bad, size):
    """The least text of a size in which none of the words stands, or None."""
    if how_many_avoid(letters, bad, size) == 0:
        return None
    return avoider_at(letters, bad, size, 0)


def avoider_at(letters, bad, size, number):
    """The text of a size ahead of which there are so many."""
    need_avoiding(letters, bad, size, MOST_COUNTED_SIZE)
    ways = ways_on(letters, bad)
    many = going_counts(ways, size)
    need_whole(number, 0, many[size][""] - 1)
    return text_at(ways, many, size, number)
