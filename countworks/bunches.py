"""Bags and sets told by items alone: an item is a thing's size and its number among the things of that size."""

LEAST_ITEM = (1, 0)


def ways_to_choose(many, most, again):
    """The list of ways to choose none, one and so on up to most of many things, each once or again and again."""
    ways = [1]
    for chosen in range(most):
        ways.append(ways[chosen] * (many + chosen if again else many - chosen) // (chosen + 1))
    return ways


class Bunches:
    """The bags (again) or sets of things that are counted by one; they are never listed to be numbered."""

    def __init__(self, one, again):
        self.one = one
        self.again = again
        most = len(one) - 1
        # At k: how many bunches of each size there are whose things all are of size k or greater.
        self.beyond = [[1] + [0] * most for k in range(most + 2)]
        for k in range(most, 0, -1):
            self.beyond[k] = [self.many_from(size, (k, 0)) for size in range(most + 1)]

    def many_from(self, size, low):
        """How many bunches of a size have no item ahead of low."""
        k, number = low
        rest = self.beyond[k + 1]
        ways = ways_to_choose(self.one[k] - number, size // k, self.again)
        return sum(ways[j] * rest[size - j * k] for j in range(len(ways)))

    def least_behind(self, item):
        """The least item that may stand behind an item."""
        k, number = item
        return (k, number if self.again else number + 1)

    def number_of_items(self, items):
        """How many bunches of the same size stand ahead of the one with these items."""
        left = sum(item[0] for item in items)
        low = LEAST_ITEM
        ahead = 0
        for item in items:
            ahead += self.many_from(left, low) - self.many_from(left, item)
            left -= item[0]
            low = self.least_behind(item)
        return ahead

    def last_with(self, size, low, many):
        """The last item, low or behind it, from which on there still are so many bunches of a size."""
        k, number = low
        while self.beyond[k + 1][size] >= many:
            k += 1
            number = 0
        # There may be far too many things of one size to go through them one by one.
        end = self.one[k]
        while end - number > 1:
            middle = (number + end) // 2
            if self.many_from(size, (k, middle)) >= many:
                number = middle
            else:
                end = middle
        return (k, number)

    def items_at(self, size, number):
        """The items of the bunch of a size that has this number."""
        items = []
        low = LEAST_ITEM
        left = size
        while left > 0:
            not_ahead = self.many_from(left, low) - number
            item = self.last_with(left, low, not_ahead)
            number = self.many_from(left, item) - not_ahead
            items.append(item)
            left -= item[0]
            low = self.least_behind(item)
        return items

    def first_items(self, size, low):
        """The items, low or behind it, with which a bunch of a size may begin."""
        k, number = low
        items = []
        while k <= size:
            # The later the first item, the fewer may follow it: the first that leads nowhere ends its size.
            while number < self.one[k] and self.many_from(size - k, self.least_behind((k, number))) > 0:
                items.append((k, number))
                number += 1
            k += 1
            number = 0
        return items

    def all_from(self, size, low, found):
        """All bunches of a size without an item ahead of low, in their order; found keeps those of lesser sizes."""
        if size == 0:
            return [()]
        if (size, low) in found:
            return found[(size, low)]
        told = []
        for item in self.first_items(size, low):
            for rest in self.all_from(size - item[0], self.least_behind(item), found):
                told.append((item,) + rest)
        found[(size, low)] = told
        return told

    def all_items(self, size):
        """All bunches of a size in their order, each as a tuple of its items."""
        return self.all_from(size, LEAST_ITEM, {})
