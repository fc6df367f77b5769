"""The refusals of the package: each stands under CountError, none under another."""


class CountError(ValueError):
    """Any refusal."""


class BadMaking(CountError):
    """No making, or none of the book."""


class BadBook(CountError):
    """No book, with wrong None, or an unfair one, with wrong the list of its unfair words."""

    def __init__(self, wrong):
        super().__init__(f"no book, or one with unfair rules: {wrong}")
        self.wrong = wrong


class BadNumber(CountError):
    """No whole number, or one beyond its limits."""


class BadThing(CountError):
    """No thing, or none of the making."""


class BadTape(CountError):
    """No tape."""


class Ended(CountError):
    """A tape that has not enough digits."""


class BadSeries(CountError):
    """No series, or no fraction."""


class NotPlain(CountError):
    """A making that is not plain."""


class NoStep(CountError):
    """No step, or one that does not fit; spot is its place in the paper, or None."""

    def __init__(self, spot):
        super().__init__(f"no step that fits, at {spot}")
        self.spot = spot


class BadWord(CountError):
    """No word, letter, letters or text as asked for."""


class BadParts(CountError):
    """No parts of a number."""


class Full(CountError):
    """Too many things to be listed at once."""


class NoRule(CountError):
    """A word without a rule; lacks is the word."""

    def __init__(self, lacks):
        super().__init__(f"no rule: {lacks}")
        self.lacks = lacks


class Nothing(CountError):
    """Nothing there to be dropped or undone."""


class BadText(CountError):
    """A text that cannot be read."""
