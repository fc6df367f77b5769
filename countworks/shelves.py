"""A shelf of rules that change, and the words whose counts change with them."""

from countworks.books import need_fair, need_rules
from countworks.counts import count_table
from countworks.errors import BadWord, NoRule, Nothing
from countworks.makings import is_word, need_making, words_within
from countworks.wholes import need_size

MOST_SEEN = 8


def need_word(thing):
    """Refuse what is no word."""
    if not is_word(thing):
        raise BadWord("no word")


def word_counts(rules, word, most):
    """The counts of a word's name from size 0 to most; a word that isn't there has none."""
    if word not in rules:
        return [0] * (most + 1)
    return count_table(rules, ("name", word), most)[("name", word)]


def changed_words(before, after):
    """The rising list of words whose counts at any size up to 8 are others after than before."""
    words = sorted(set(before) | set(after))
    return [word for word in words if word_counts(before, word, MOST_SEEN) != word_counts(after, word, MOST_SEEN)]


class Shelf:
    """A fair book whose rules are put, dropped and put back."""

    def __init__(self, book):
        need_fair(book)
        # No dict of rules is ever changed once it is kept: each deed makes a new one, and past has those ahead of it.
        self.rules = dict(book)
        self.past = []

    def keep(self, rules):
        """Have other rules from now on; told is the list of words whose counts change."""
        told = changed_words(self.rules, rules)
        self.past.append(self.rules)
        self.rules = rules
        return told

    def put(self, word, making):
        """Give a word this rule; told is the list of words whose counts change."""
        need_word(word)
        need_making(making)
        rules = {**self.rules, word: making}
        need_rules(rules, making)
        # With a ninth word these are no book, which is refused as such.
        need_fair(rules)
        return self.keep(rules)

    def drop(self, word):
        """Take a word's rule away; told is the list of words whose counts change."""
        need_word(word)
        if word not in self.rules:
            raise Nothing("no such word to drop")
        rules = {other: rule for other, rule in self.rules.items() if other != word}
        if any(word in words_within(rule) for rule in rules.values()):
            raise NoRule(word)
        # Without any word these are no book, which is refused as such.
        need_fair(rules)
        return self.keep(rules)

    def undo(self):
        """Have the rules that were there ahead of the last deed."""
        if len(self.past) == 0:
            raise Nothing("no deed to undo")
        self.rules = self.past.pop()

    def all_rules(self):
        """A dict like the shelf's."""
        return dict(self.rules)

    def counts(self, word, most):
        """The list of counts of a word's name, of all sizes from 0 to most."""
        need_word(word)
        if word not in self.rules:
            raise NoRule(word)
        need_size(most)
        return word_counts(self.rules, word, most)

    def deeds(self):
        """How many deeds could be undone."""
        return len(self.past)

    def twin(self):
        """A shelf like it, with the same deeds to undo, that goes by itself."""
        other = Shelf(self.rules)
        other.past = list(self.past)
        return other
