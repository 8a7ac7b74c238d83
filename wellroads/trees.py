"""Trees of villages and roads: how far it is, the way, and the two sides of a road."""

from wellroads.errors import BadTree, NoRoad, NoVillage

MOST_VILLAGES = 12
MOST_LENGTH = 1000000


def is_number(value):
    # Python counts True and False among its whole numbers, the program doesn't.
    return isinstance(value, int) and not isinstance(value, bool)


def is_whole(value, least, most):
    return is_number(value) and least <= value <= most


def are_below(values, many):
    return isinstance(values, list) and all([is_whole(value, 0, many - 1) for value in values])


def is_road(road, villages):
    if not isinstance(road, tuple) or len(road) != 3:
        return False
    for end in road[:2]:
        if not is_whole(end, 0, villages - 1):
            return False
    return road[0] != road[1] and is_whole(road[2], 1, MOST_LENGTH)


def is_tree(villages, roads):
    if not is_whole(villages, 1, MOST_VILLAGES):
        return False
    if not isinstance(roads, list) or len(roads) != villages - 1:
        return False
    if not all([is_road(road, villages) for road in roads]):
        return False
    # With one road less than villages none can go round if all are reached.
    return len(reached(roads, 0)) == villages


def steps(roads, village):
    ends = []
    for first, second, length in roads:
        if first == village:
            ends.append((second, length))
        if second == village:
            ends.append((first, length))
    return ends


def reached(roads, start):
    # For each village that is come to: the one next to it towards the start, and how far the start is.
    found = {start: (start, 0)}
    waiting = [start]
    while waiting:
        here = waiting.pop()
        for there, length in steps(roads, here):
            if there not in found:
                found[there] = (here, found[here][1] + length)
                waiting.append(there)
    return found


class Tree:
    def __init__(self, villages, roads):
        if not is_tree(villages, roads):
            raise BadTree("these villages and roads make no tree")
        self.size = villages
        self.road_list = list(roads)

    def roads(self):
        return list(self.road_list)


def need_village(tree, village):
    if not is_whole(village, 0, tree.size - 1):
        raise NoVillage("the tree has no such village")


def need_road(tree, at):
    if not is_whole(at, 0, tree.size - 2):
        raise NoRoad("the tree has no such road")


def far(tree, one, other):
    need_village(tree, one)
    need_village(tree, other)
    return reached(tree.roads(), one)[other][1]


def way(tree, one, other):
    need_village(tree, one)
    need_village(tree, other)
    # Looked for from the far end, so that the steps towards it come in their turn.
    found = reached(tree.roads(), other)
    villages = [one]
    while villages[-1] != other:
        villages.append(found[villages[-1]][0])
    return villages


def distances_from(tree, village):
    found = reached(tree.roads(), village)
    return [found[other][1] for other in range(tree.size)]


def distances(tree):
    return [distances_from(tree, village) for village in range(tree.size)]


def sides(tree, at):
    need_road(tree, at)
    roads = tree.roads()
    road = roads.pop(at)
    found = reached(roads, road[0])
    others = [village for village in range(tree.size) if village not in found]
    return (sorted(found), others)


def joined(tree, at, other, length):
    need_village(tree, at)
    ahead = tree.size
    behind = [(ahead + road[0], ahead + road[1], road[2]) for road in other.roads()]
    return Tree(ahead + other.size, tree.roads() + [(at, ahead, length)] + behind)


def moved(tree, at, one, other):
    need_road(tree, at)
    need_village(tree, one)
    need_village(tree, other)
    roads = tree.roads()
    roads[at] = (one, other, roads[at][2])
    return Tree(tree.size, roads)
