"""Numbers of things among those of their size, and the things that have them."""

from countworks.books import need_of
from countworks.tallies import Tally
from countworks.things import need_thing, size_of, within
from countworks.wholes import need_size, need_whole


def come_to(root, parts_of, made_of):
    """What a root comes to, made of what its parts come to, however deep they are nested."""
    nodes = [root]
    places = []
    while len(places) < len(nodes):
        found = parts_of(nodes[len(places)])
        places.append(list(range(len(nodes), len(nodes) + len(found))))
        nodes.extend(found)
    told = [None] * len(nodes)
    # Parts stand behind what they are parts of, so going back each is known when it is asked for.
    for at in reversed(range(len(nodes))):
        told[at] = made_of(nodes[at], [told[place] for place in places[at]])
    return told[0]


def pair_item(first, second, left, right):
    """The size and number of a pair, of those of its two things and the counts on both sides."""
    k, number = left
    rest, below = right
    size = k + rest
    ahead = sum(first[j] * second[size - j] for j in range(k))
    return (size, ahead + number * second[rest] + below)


def pair_parts(first, second, size, number):
    """The sizes and numbers of the two things of the pair of a size that has this number."""
    k = 0
    while number >= first[k] * second[size - k]:
        number -= first[k] * second[size - k]
        k += 1
    above, below = divmod(number, second[size - k])
    return (k, above), (size - k, below)


def row_item(one, rows, items):
    """The size and number of a row, each thing and the rest behind it being a pair."""
    told = (0, 0)
    for item in reversed(items):
        told = pair_item(one, rows, item, told)
    return told


def row_parts(one, rows, size, number):
    """The sizes and numbers of the things of the row of a size that has this number."""
    items = []
    while size > 0:
        item, (size, number) = pair_parts(one, rows, size, number)
        items.append(item)
    return items


def item_of(tally, making, thing, items):
    """The size and number of a thing, of those of the things right within it."""
    kind = making[0]
    if kind in ("unit", "atom"):
        return (1 if kind == "atom" else 0, 0)
    if kind == "name":
        return items[0]
    one = tally.known[making[1]]
    if kind == "sum":
        size, number = items[0]
        return (size, number + (one[size] if thing[0] == 1 else 0))
    if kind == "pair":
        return pair_item(one, tally.known[making[2]], items[0], items[1])
    if kind == "row":
        return row_item(one, tally.known[making], items)
    return (sum(item[0] for item in items), tally.bunches[making].number_of_items(items))


def side_of(tally, making, size, number):
    """The mark of the thing of a sum of a size that has this number."""
    return 0 if number < tally.known[making[1]][size] else 1


def parts_at(tally, making, size, number):
    """The makings, sizes and numbers of the things right within the thing of a size that has this number."""
    kind = making[0]
    if kind in ("unit", "atom"):
        return []
    if kind == "name":
        return [(tally.book[making[1]], size, number)]
    one = tally.known[making[1]]
    if kind == "sum":
        if side_of(tally, making, size, number) == 0:
            return [(making[1], size, number)]
        return [(making[2], size, number - one[size])]
    if kind == "pair":
        (k, above), (rest, below) = pair_parts(one, tally.known[making[2]], size, number)
        return [(making[1], k, above), (making[2], rest, below)]
    if kind == "row":
        items = row_parts(one, tally.known[making], size, number)
    else:
        items = tally.bunches[making].items_at(size, number)
    return [(making[1], k, at) for k, at in items]


def thing_of(tally, making, size, number, things):
    """The thing of a size that has this number, of the things right within it."""
    kind = making[0]
    if kind == "atom":
        return making[1]
    if kind == "name":
        return things[0]
    if kind == "sum":
        return (side_of(tally, making, size, number), things[0])
    return tuple(things)


def numbered(tally, making, thing):
    """The number of a thing of a making among those of its size."""
    size, number = come_to(
        (making, thing),
        lambda node: within(tally.book, node[0], node[1]),
        lambda node, items: item_of(tally, node[0], node[1], items),
    )
    return number


def found_at(tally, making, size, number):
    """The thing of a making of a size that has a number, which must be below their count."""
    return come_to(
        (making, size, number),
        lambda node: parts_at(tally, node[0], node[1], node[2]),
        lambda node, things: thing_of(tally, node[0], node[1], node[2], things),
    )


def number_of(book, making, thing):
    """How many things of the same size stand ahead of a thing."""
    need_of(book, making)
    need_thing(book, making, thing)
    return numbered(Tally(book, making, size_of(thing)), making, thing)


def thing_at(book, making, size, number):
    """The thing of a size with this number."""
    need_of(book, making)
    need_size(size)
    tally = Tally(book, making, size)
    need_whole(number, 0, tally.known[making][size] - 1)
    return found_at(tally, making, size, number)


def next_thing(book, making, thing):
    """The next thing of the same size, or None."""
    need_of(book, making)
    need_thing(book, making, thing)
    size = size_of(thing)
    tally = Tally(book, making, size)
    number = numbered(tally, making, thing) + 1
    if number == tally.known[making][size]:
        return None
    return found_at(tally, making, size, number)
