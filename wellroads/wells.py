"""Wells within a walk: the fewest there can be, and the callers who show that fewer won't do."""

from wellroads.errors import BadNumber
from wellroads.trees import are_below, distances, is_number, is_whole

MOST_WALK = 12000000
MOST_WELLS = 12


class Answer:
    def shows(self, tree, number):
        # An answer without fields has nothing to show it by.
        return False


class Wells(Answer):
    def __init__(self, wells, callers):
        self.wells = list(wells)
        self.callers = list(callers)

    def shows(self, tree, number):
        if not is_number(number):
            return False
        if not are_below(self.wells, tree.size) or not are_below(self.callers, tree.size):
            return False
        if len(self.wells) != len(self.callers):
            return False
        for row in distances(tree):
            if how_many_near(row, self.wells, number) == 0 or how_many_near(row, self.callers, number) > 1:
                return False
        return True


def how_many_near(row, villages, walk):
    return len([village for village in villages if row[village] <= walk])


def innermost_near(row, inwards, walk):
    near = [village for village, length in enumerate(row) if length <= walk]
    return min(near, key=lambda place: inwards[place])


def fewest(table, walk):
    # How far inwards a village lies is told by how far it is to village 0.
    inwards = table[0]
    innermost = [innermost_near(row, inwards, walk) for row in table]
    wells = []
    callers = []
    # They are asked from the outside inwards. If a village is within the walk of an
    # earlier caller and of a later one, so is the earlier one's innermost village, where
    # a well is by then: the later one has a well and needn't call.
    for village in sorted(range(len(table)), key=lambda place: -inwards[innermost[place]]):
        if how_many_near(table[village], wells, walk) == 0:
            callers.append(village)
            wells.append(innermost[village])
    return Wells(sorted(wells), sorted(callers))


def dug(tree, walk):
    if not is_whole(walk, 0, MOST_WALK):
        raise BadNumber("a walk is a whole number from 0 to 12000000")
    return fewest(distances(tree), walk)


def least_walk(tree, many):
    if not is_whole(many, 1, MOST_WELLS):
        raise BadNumber("wells are a whole number from 1 to 12")
    table = distances(tree)
    # Between two lengths that follow on one another nothing comes within the walk,
    # so only these are tried; the greatest is enough for one well.
    lengths = []
    for row in table:
        lengths.extend(row)
    return min([walk for walk in sorted(set(lengths)) if len(fewest(table, walk).wells) <= many])
