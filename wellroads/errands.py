"""Errands: walks from neighbour to neighbour that come to every village."""

from wellroads.trees import need_village, steps, way


def errand(tree, one, other):
    line = way(tree, one, other)
    villages = []
    for here in line:
        villages.extend(there_and_back(tree.roads(), here, line))
    return villages


def there_and_back(roads, here, closed):
    villages = [here]
    for there, length in steps(roads, here):
        if there not in closed:
            villages.extend(there_and_back(roads, there, [here]))
            villages.append(here)
    return villages


def long(tree, walk):
    for village in walk:
        need_village(tree, village)
    roads = tree.roads()
    total = 0
    for here, there in zip(walk, walk[1:]):
        length = dict(steps(roads, here)).get(there)
        if length is None:
            return None
        total += length
    return total
