"""Trees for the tests, and slow but plain reckonings to hold the program's answers against."""

from itertools import product

from wellroads.trees import Tree

BIG = 10 ** 15


def path(size, length=1):
    return [(village, village + 1, length) for village in range(size - 1)]


def star(size, middle=0, length=1):
    return [(middle, village, length) for village in range(size) if village != middle]


def from_code(code, lengths):
    """The roads of the tree with this Pruefer code; every other road is told the other way round."""
    size = len(code) + 2
    degree = [1 + code.count(village) for village in range(size)]
    ends = []
    for village in code:
        leaf = degree.index(1)
        ends.append((leaf, village))
        degree[leaf] -= 1
        degree[village] -= 1
    ends.append(tuple(village for village in range(size) if degree[village] == 1))
    roads = []
    for number, (one, other) in enumerate(ends):
        length = lengths[number % len(lengths)]
        roads.append((one, other, length) if number % 2 else (other, one, length))
    return roads


def all_trees(most):
    """Every numbered tree of up to so many villages, with equal and with mixed lengths."""
    yield Tree(1, [])
    for size in range(2, most + 1):
        for code in product(range(size), repeat=size - 2):
            for lengths in ([1], [3, 1, 2]):
                yield Tree(size, from_code(code, lengths))


def large_trees():
    """Trees of 12 villages: path, stars, mixed numberings, the longest and the shortest roads."""
    yield Tree(12, path(12))
    yield Tree(12, path(12, 1000000))
    yield Tree(12, star(12, 5))
    yield Tree(12, star(12, 11, 1000000))
    for turn in range(1, 8):
        code = [(turn * place * place + 3 * place + turn) % 12 for place in range(10)]
        for lengths in ([1], [1, 1000000], [5, 2, 9, 2, 7]):
            roads = from_code(code, lengths)
            yield Tree(12, roads)
            yield Tree(12, roads[turn:] + roads[:turn])


def many_trees():
    yield from all_trees(5)
    yield from large_trees()


def table_of(tree):
    """How far it is from each village to each, by way of every village in turn."""
    size = tree.size
    table = [[0 if one == other else BIG for other in range(size)] for one in range(size)]
    for one, other, length in tree.roads():
        table[one][other] = table[other][one] = length
    for by in range(size):
        for one in range(size):
            for other in range(size):
                table[one][other] = min(table[one][other], table[one][by] + table[by][other])
    return table


def lists_up_to(most, values):
    """Every list of up to so many of these values, in any order and with some told twice."""
    for many in range(most + 1):
        for told in product(values, repeat=many):
            yield list(told)


def rows_of(tree):
    return (tree.size, tree.roads())
