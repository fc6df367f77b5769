"""What is counted ahead of listing or numbering the things of a making."""

from countworks.bunches import Bunches
from countworks.counts import count_table


class Tally:
    """The counts, up to a size, of a making of a book and of all that it leads to, with their bags and sets."""

    def __init__(self, book, making, most):
        self.book = book
        self.known = count_table(book, making, most)
        self.bunches = {
            part: Bunches(self.known[part[1]], part[0] == "bag") for part in self.known if part[0] in ("bag", "set")
        }
