"""A tree's text, written and read."""

from wellroads.errors import BadRow
from wellroads.trees import Tree, is_tree

FIGURES = "0123456789"
MOST_FIGURES = 7


def written(tree):
    size = tree.size
    rows = [f"villages {size}"]
    for first, second, length in tree.roads():
        rows.append(f"{first}-{second} {length}")
    return "\n".join(rows)


def number_of(text):
    if not 1 <= len(text) <= MOST_FIGURES or not all([sign in FIGURES for sign in text]):
        return None
    if text[0] == "0" and text != "0":
        return None
    return int(text)


def villages_of(row):
    parts = row.split(" ")
    if len(parts) != 2 or parts[0] != "villages" or parts[1] == "0":
        return None
    return number_of(parts[1])


def road_of(row):
    parts = row.split(" ")
    ends = parts[0].split("-")
    if len(parts) != 2 or len(ends) != 2:
        return None
    numbers = [number_of(ends[0]), number_of(ends[1]), number_of(parts[1])]
    return None if None in numbers else tuple(numbers)


def read(text):
    rows = text.split("\n")
    villages = villages_of(rows[0])
    if villages is None:
        raise BadRow(1)
    roads = [road_of(row) for row in rows[1:]]
    if None in roads:
        # The roads' rows are counted from 2, for the first row is the villages'.
        raise BadRow(roads.index(None) + 2)
    if not is_tree(villages, roads):
        raise BadRow(len(rows) + 1)
    return Tree(villages, roads)
