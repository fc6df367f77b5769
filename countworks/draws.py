"""Draws: numbers and things that a tape of 0 and 1 tells evenly."""

from countworks.books import need_of
from countworks.errors import BadNumber, BadTape, Ended
from countworks.numbers import found_at
from countworks.tallies import Tally
from countworks.things import is_mark
from countworks.wholes import is_whole, need_size


def need_many(thing):
    """Refuse what is no whole number from 1 on."""
    if not is_whole(thing) or thing < 1:
        raise BadNumber("no whole number from 1 on")


def need_tape(thing):
    """Refuse what is no list of 0 and 1."""
    if not isinstance(thing, list) or not all(is_mark(digit) for digit in thing):
        raise BadTape("no list of 0 and 1")


def digits_for(many):
    """How many digits a number below many takes."""
    need_many(many)
    return (many - 1).bit_length()


def number_from(tape, start, digits):
    """The number that so many digits of a tape tell from start on, the first weighing most."""
    if start + digits > len(tape):
        raise Ended("the tape has not enough digits")
    number = 0
    for digit in tape[start:start + digits]:
        number = number * 2 + digit
    return number


def drawn_number(many, tape):
    """A number below many drawn from a tape, and how many digits were taken."""
    digits = digits_for(many)
    need_tape(tape)
    taken = digits
    number = number_from(tape, 0, digits)
    while number >= many:
        number = number_from(tape, taken, digits)
        taken += digits
    return (number, taken)


def drawn(book, making, size, tape):
    """A thing of a size drawn from a tape, and how many digits were taken."""
    need_of(book, making)
    need_size(size)
    tally = Tally(book, making, size)
    # A size without things is refused here as a number, ahead of the tape.
    number, taken = drawn_number(tally.known[making][size], tape)
    return (found_at(tally, making, size, number), taken)
