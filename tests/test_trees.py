import inspect
import unittest

from shapes import all_trees, from_code, large_trees, many_trees, path, rows_of, star, table_of
from wellroads import trees
from wellroads.errors import BadTree, NoRoad, NoVillage
from wellroads.trees import Tree, distances, far, joined, moved, sides, way

# 0 -4- 1 -2- 2, 1 -7- 3, 3 -1- 4, told in no order and either way round.
ROADS = [(3, 1, 7), (0, 1, 4), (4, 3, 1), (2, 1, 2)]
NO_VILLAGES = (-1, -5, 5, 12, 10 ** 5000, True, False, None, "0", [0], (0,))
NO_ROADS = (-1, -4, 4, 5, 12, 10 ** 5000, True, False, None, "0", [0], (0,))


def sample():
    return Tree(5, list(ROADS))


class Interface(unittest.TestCase):
    def test_arguments_have_their_names(self):
        told = {
            "Tree": ["villages", "roads"],
            "far": ["tree", "one", "other"],
            "way": ["tree", "one", "other"],
            "distances": ["tree"],
            "sides": ["tree", "at"],
            "joined": ["tree", "at", "other", "length"],
            "moved": ["tree", "at", "one", "other"],
        }
        for name, arguments in told.items():
            self.assertEqual(list(inspect.signature(getattr(trees, name)).parameters), arguments, name)

    def test_size_and_roads(self):
        tree = sample()
        self.assertEqual(tree.size, 5)
        self.assertEqual(tree.roads(), ROADS)
        self.assertIs(type(tree.roads()), list)
        for road in tree.roads():
            self.assertIs(type(road), tuple)


class WhatATreeIs(unittest.TestCase):
    """[1]"""

    def refused(self, villages, roads):
        with self.assertRaises(BadTree):
            Tree(villages, roads)

    def test_every_tree_is_taken_with_its_roads_as_told(self):
        for tree in all_trees(6):
            again = Tree(tree.size, tree.roads())
            self.assertEqual(rows_of(again), rows_of(tree))
        for tree in large_trees():
            self.assertEqual(tree.size, 12)
            self.assertEqual(len(tree.roads()), 11)

    def test_one_village(self):
        tree = Tree(1, [])
        self.assertEqual(rows_of(tree), (1, []))

    def test_shortest_and_longest_road(self):
        self.assertEqual(Tree(2, [(1, 0, 1)]).roads(), [(1, 0, 1)])
        self.assertEqual(Tree(2, [(0, 1, 1000000)]).roads(), [(0, 1, 1000000)])

    def test_how_many_villages(self):
        self.refused(0, [])
        self.refused(-1, [])
        self.refused(13, path(13))
        self.refused(13, star(13))
        self.refused(10 ** 5000, [])
        for villages in (True, False, None, "1", "", [1], (1,)):
            self.refused(villages, [])
        self.refused(True, [(0, 1, 1)])

    def test_how_many_roads(self):
        self.refused(1, [(0, 0, 1)])
        self.refused(2, [])
        self.refused(3, path(2))
        self.refused(3, path(3) + [(0, 2, 1)])
        self.refused(3, path(3) + [(0, 1, 1)])
        self.refused(1, path(2))
        self.refused(11, path(12))

    def test_a_road_to_no_village(self):
        for end in (-1, 2, 12, True, False, None, "1", 10 ** 5000):
            self.refused(2, [(0, end, 1)])
            self.refused(2, [(end, 0, 1)])
            self.refused(2, [(1, end, 1)])
            self.refused(2, [(end, 1, 1)])
        self.refused(3, [(0, -1, 1), (0, 1, 1)])
        self.refused(3, [(1, 2, 1), (2, 3, 1)])

    def test_a_road_from_a_village_to_itself(self):
        self.refused(2, [(0, 0, 1)])
        self.refused(2, [(1, 1, 1)])
        self.refused(3, [(0, 1, 1), (2, 2, 1)])

    def test_lengths(self):
        for length in (0, -1, 1000001, 10 ** 5000, True, False, None, "1"):
            self.refused(2, [(0, 1, length)])
            self.refused(4, path(3) + [(2, 3, length)])

    def test_triples(self):
        for road in ((0, 1), (0, 1, 1, 1), (), [0, 1, 1], "011", None, 1, {0: 1}):
            self.refused(2, [road])

    def test_a_list_of_roads(self):
        for roads in (((0, 1, 1),), None, 1, "r", {(0, 1, 1): True}):
            self.refused(2, roads)
        self.refused(1, ())
        self.refused(1, None)

    def test_roads_that_go_round_leave_a_village_out(self):
        self.refused(4, [(0, 1, 1), (1, 2, 1), (2, 0, 1)])
        self.refused(4, [(1, 2, 1), (2, 3, 1), (3, 1, 1)])
        self.refused(3, [(0, 1, 1), (1, 0, 2)])
        self.refused(3, [(0, 1, 1), (0, 1, 1)])
        self.refused(6, [(0, 1, 1), (2, 3, 1), (3, 4, 1), (4, 5, 1), (5, 2, 1)])
        self.refused(12, path(11)[:-1] + [(0, 9, 1), (10, 11, 1)])

    def test_what_is_handed_in_is_neither_changed_nor_kept(self):
        roads = list(ROADS)
        tree = Tree(5, roads)
        self.assertEqual(roads, ROADS)
        roads[0] = (2, 3, 9)
        roads.append((0, 4, 1))
        self.assertEqual(rows_of(tree), (5, ROADS))
        self.assertEqual(far(tree, 1, 3), 7)
        roads.clear()
        self.assertEqual(way(tree, 0, 4), [0, 1, 3, 4])

    def test_each_list_given_back_is_the_askers_own(self):
        tree = sample()
        askings = (
            lambda: tree.roads(),
            lambda: way(tree, 0, 4),
            lambda: way(tree, 2, 2),
            lambda: distances(tree),
            lambda: distances(tree)[3],
            lambda: sides(tree, 0)[0],
            lambda: sides(tree, 0)[1],
        )
        before = [asking() for asking in askings]
        for asking in askings:
            asking().append("spoilt")
            asking().clear()
        for row in distances(tree):
            row.clear()
        self.assertEqual([asking() for asking in askings], before)
        self.assertEqual(rows_of(tree), (5, ROADS))

    def test_rows_of_distances_are_apart(self):
        table = distances(sample())
        first = list(table[1])
        table[0].clear()
        self.assertEqual(table[1], first)

    def test_asking_changes_no_tree(self):
        tree = sample()
        far(tree, 0, 4)
        way(tree, 0, 4)
        distances(tree)
        sides(tree, 2)
        joined(tree, 1, tree, 8).roads().clear()
        moved(tree, 0, 0, 3).roads().clear()
        self.assertEqual(rows_of(tree), (5, ROADS))


class HowFar(unittest.TestCase):
    """[2]"""

    def test_by_hand(self):
        tree = sample()
        self.assertEqual(far(tree, 0, 4), 12)
        self.assertEqual(far(tree, 4, 2), 10)
        self.assertEqual(far(tree, 3, 3), 0)
        self.assertEqual(way(tree, 0, 4), [0, 1, 3, 4])
        self.assertEqual(way(tree, 4, 0), [4, 3, 1, 0])
        self.assertEqual(way(tree, 3, 3), [3])
        self.assertEqual(distances(tree), [
            [0, 4, 6, 11, 12],
            [4, 0, 2, 7, 8],
            [6, 2, 0, 9, 10],
            [11, 7, 9, 0, 1],
            [12, 8, 10, 1, 0],
        ])

    def test_one_village(self):
        tree = Tree(1, [])
        self.assertEqual(far(tree, 0, 0), 0)
        self.assertEqual(way(tree, 0, 0), [0])
        self.assertEqual(distances(tree), [[0]])

    def test_the_longest_way_there_can_be(self):
        self.assertEqual(far(Tree(12, path(12, 1000000)), 11, 0), 11000000)

    def test_many_trees(self):
        for tree in many_trees():
            table = table_of(tree)
            self.assertEqual(distances(tree), table)
            for one in range(tree.size):
                for other in range(tree.size):
                    self.assertEqual(far(tree, one, other), table[one][other])

    def test_ways_of_many_trees(self):
        for tree in many_trees():
            lengths = {}
            for first, second, length in tree.roads():
                lengths[first, second] = lengths[second, first] = length
            for one in range(tree.size):
                for other in range(tree.size):
                    found = way(tree, one, other)
                    self.assertEqual((found[0], found[-1]), (one, other))
                    self.assertEqual(len(set(found)), len(found))
                    walked = sum(lengths[step] for step in zip(found, found[1:]))
                    self.assertEqual(walked, far(tree, one, other))

    def test_no_village(self):
        for asked in (far, way):
            for village in NO_VILLAGES:
                for one, other in ((village, 0), (0, village), (village, village), (4, village)):
                    with self.assertRaises(NoVillage):
                        asked(sample(), one, other)
            with self.assertRaises(NoVillage):
                asked(Tree(1, []), 0, 1)


class Sides(unittest.TestCase):
    """[3]"""

    def test_by_hand(self):
        tree = sample()
        self.assertEqual(sides(tree, 0), ([3, 4], [0, 1, 2]))
        self.assertEqual(sides(tree, 1), ([0], [1, 2, 3, 4]))
        self.assertEqual(sides(tree, 2), ([4], [0, 1, 2, 3]))
        self.assertEqual(sides(tree, 3), ([2], [0, 1, 3, 4]))
        self.assertIs(type(sides(tree, 0)), tuple)

    def test_the_other_way_round(self):
        self.assertEqual(sides(Tree(2, [(0, 1, 5)]), 0), ([0], [1]))
        self.assertEqual(sides(Tree(2, [(1, 0, 5)]), 0), ([1], [0]))

    def test_many_trees(self):
        for tree in many_trees():
            for at, road in enumerate(tree.roads()):
                without = [[], []]
                for village in range(tree.size):
                    # The road is on the way just if the village is on its second village's side.
                    without[road[1] in way(tree, road[0], village)].append(village)
                self.assertEqual(sides(tree, at), tuple(without))

    def test_no_road(self):
        for at in NO_ROADS:
            with self.assertRaises(NoRoad):
                sides(sample(), at)
        for at in (0, -1, True, False):
            with self.assertRaises(NoRoad):
                sides(Tree(1, []), at)


class Joined(unittest.TestCase):
    """[3]"""

    def test_by_hand(self):
        other = Tree(3, [(2, 0, 6), (0, 1, 5)])
        tree = joined(sample(), 2, other, 9)
        self.assertIsInstance(tree, Tree)
        self.assertEqual(rows_of(tree), (8, ROADS + [(2, 5, 9), (7, 5, 6), (5, 6, 5)]))
        self.assertEqual(rows_of(other), (3, [(2, 0, 6), (0, 1, 5)]))
        tree = joined(other, 0, sample(), 1000000)
        behind = [(6, 4, 7), (3, 4, 4), (7, 6, 1), (5, 4, 2)]
        self.assertEqual(rows_of(tree), (8, [(2, 0, 6), (0, 1, 5), (0, 3, 1000000)] + behind))

    def test_single_villages(self):
        self.assertEqual(rows_of(joined(Tree(1, []), 0, Tree(1, []), 1)), (2, [(0, 1, 1)]))

    def test_a_tree_to_itself(self):
        tree = Tree(2, [(1, 0, 3)])
        self.assertEqual(rows_of(joined(tree, 1, tree, 4)), (4, [(1, 0, 3), (1, 2, 4), (3, 2, 3)]))

    def test_up_to_twelve_villages(self):
        tree = joined(Tree(7, path(7)), 6, Tree(5, path(5)), 1)
        self.assertEqual(rows_of(tree), (12, path(12)))
        for sizes in ((7, 6), (12, 1), (1, 12), (12, 12)):
            with self.assertRaises(BadTree):
                joined(Tree(sizes[0], path(sizes[0])), 0, Tree(sizes[1], path(sizes[1])), 1)

    def test_lengths(self):
        for length in (0, -1, 1000001, True, False, None, "1"):
            with self.assertRaises(BadTree):
                joined(sample(), 0, Tree(1, []), length)

    def test_no_village(self):
        for at in NO_VILLAGES:
            with self.assertRaises(NoVillage):
                joined(sample(), at, Tree(7, path(7)), 1)

    def test_no_village_is_told_ahead_of_bad_tree(self):
        for at in NO_VILLAGES:
            with self.assertRaises(NoVillage):
                joined(sample(), at, Tree(1, []), 0)
            with self.assertRaises(NoVillage):
                joined(sample(), at, Tree(12, path(12)), 1)
            with self.assertRaises(NoVillage):
                joined(sample(), at, Tree(1, []), True)


class Moved(unittest.TestCase):
    """[3]"""

    def test_by_hand(self):
        tree = moved(sample(), 0, 0, 4)
        self.assertIsInstance(tree, Tree)
        self.assertEqual(rows_of(tree), (5, [(0, 4, 7), (0, 1, 4), (4, 3, 1), (2, 1, 2)]))
        self.assertEqual(rows_of(moved(sample(), 3, 2, 4)), (5, ROADS[:3] + [(2, 4, 2)]))
        self.assertEqual(rows_of(moved(sample(), 2, 3, 4)), (5, ROADS[:2] + [(3, 4, 1)] + ROADS[3:]))

    def test_to_where_it_was(self):
        self.assertEqual(rows_of(moved(sample(), 1, 0, 1)), (5, ROADS))

    def test_a_tree_just_if_its_ends_are_on_both_sides(self):
        for tree in list(all_trees(4)) + [Tree(12, from_code([3, 3, 1, 8, 0, 0, 5, 11, 2, 7], [4, 1]))]:
            for at, road in enumerate(tree.roads()):
                first, second = sides(tree, at)
                for one in range(tree.size):
                    for other in range(tree.size):
                        if (one in first) == (other in first):
                            with self.assertRaises(BadTree):
                                moved(tree, at, one, other)
                        else:
                            roads = tree.roads()
                            roads[at] = (one, other, road[2])
                            self.assertEqual(rows_of(moved(tree, at, one, other)), (tree.size, roads))

    def test_no_road(self):
        for at in NO_ROADS:
            with self.assertRaises(NoRoad):
                moved(sample(), at, 0, 1)
        with self.assertRaises(NoRoad):
            moved(Tree(1, []), 0, 0, 0)

    def test_no_village(self):
        for village in NO_VILLAGES:
            with self.assertRaises(NoVillage):
                moved(sample(), 1, village, 1)
            with self.assertRaises(NoVillage):
                moved(sample(), 1, 0, village)
            with self.assertRaises(NoVillage):
                moved(sample(), 1, village, village)

    def test_of_several_refusals_the_first_is_told(self):
        with self.assertRaises(NoRoad):
            moved(sample(), 4, 5, 0)
        with self.assertRaises(NoRoad):
            moved(sample(), True, True, True)
        with self.assertRaises(NoRoad):
            moved(sample(), -1, 0, 0)
        with self.assertRaises(NoVillage):
            moved(sample(), 1, 5, 5)
        with self.assertRaises(BadTree):
            moved(sample(), 1, 0, 0)


if __name__ == "__main__":
    unittest.main()
