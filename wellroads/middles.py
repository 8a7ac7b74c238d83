"""The middles of a tree: the villages farthest apart, the centres, the walks and the medians."""

from wellroads.errors import BadNumber
from wellroads.trees import distances, is_whole

MOST_PEOPLE = 1000000


def longest(tree):
    table = distances(tree)
    best = (0, 0, 0)
    for one in range(tree.size):
        for other in range(one + 1, tree.size):
            # Only a longer way counts, so the first of several equal ones stays.
            if table[one][other] > best[2]:
                best = (one, other, table[one][other])
    return best


def least_places(numbers):
    least = min(numbers)
    return ([place for place, number in enumerate(numbers) if number == least], least)


def centres(tree):
    return least_places([max(row) for row in distances(tree)])


def need_people(tree, people):
    if not isinstance(people, list) or len(people) != tree.size:
        raise BadNumber("people are a list with a number for each village")
    if not all([is_whole(many, 0, MOST_PEOPLE) for many in people]):
        raise BadNumber("people are whole numbers from 0 to 1000000")


def walked(people, row):
    return sum([many * length for many, length in zip(people, row)])


def walks(tree, people):
    need_people(tree, people)
    return [walked(people, row) for row in distances(tree)]


def medians(tree, people):
    return least_places(walks(tree, people))
