import inspect
import unittest
from heapq import heappop, heappush

from shapes import all_trees, large_trees, lists_up_to, many_trees, path, rows_of, star, table_of
from wellroads import errands
from wellroads.errands import errand, long
from wellroads.errors import NoVillage
from wellroads.trees import Tree, way

# 0 -4- 1 -2- 2, 1 -7- 3, 3 -1- 4, told in no order and either way round.
ROADS = [(3, 1, 7), (0, 1, 4), (4, 3, 1), (2, 1, 2)]
NO_VILLAGES = (-1, -5, 5, 12, 10 ** 5000, True, False, None, "0", [0], (0,))


def sample():
    return Tree(5, list(ROADS))


def lengths_of(tree):
    lengths = {}
    for first, second, length in tree.roads():
        lengths[first, second] = lengths[second, first] = length
    return lengths


def slow_shortest(tree, one):
    """How long the shortest errand from this village to each is, by trying every walk."""
    lengths = lengths_of(tree)
    everywhere = (1 << tree.size) - 1
    done = {}
    waiting = [(0, one, 1 << one)]
    while waiting:
        walked, here, seen = heappop(waiting)
        if (here, seen) not in done:
            done[here, seen] = walked
            for (first, second), length in lengths.items():
                if first == here:
                    heappush(waiting, (walked + length, second, seen | 1 << second))
    return [done[village, everywhere] for village in range(tree.size)]


class Interface(unittest.TestCase):
    def test_arguments_have_their_names(self):
        told = {"errand": ["tree", "one", "other"], "long": ["tree", "walk"]}
        for name, arguments in told.items():
            self.assertEqual(list(inspect.signature(getattr(errands, name)).parameters), arguments, name)

    def test_kinds(self):
        self.assertIs(type(errand(sample(), 0, 4)), list)
        self.assertIs(type(long(sample(), [0, 1])), int)


class Errand(unittest.TestCase):
    """[10]"""

    def test_by_hand(self):
        self.assertEqual(errand(sample(), 0, 4), [0, 1, 2, 1, 3, 4])
        self.assertEqual(errand(sample(), 4, 2), [4, 3, 1, 0, 1, 2])
        self.assertIn(errand(sample(), 1, 0), ([1, 2, 1, 3, 4, 3, 1, 0], [1, 3, 4, 3, 1, 2, 1, 0]))
        self.assertEqual(long(sample(), errand(sample(), 1, 0)), 24)

    def test_one_village(self):
        self.assertEqual(errand(Tree(1, []), 0, 0), [0])

    def test_two_villages(self):
        tree = Tree(2, [(1, 0, 3)])
        self.assertEqual(errand(tree, 0, 1), [0, 1])
        self.assertEqual(errand(tree, 1, 0), [1, 0])
        self.assertEqual(errand(tree, 0, 0), [0, 1, 0])
        self.assertEqual(errand(tree, 1, 1), [1, 0, 1])

    def test_paths_and_stars(self):
        tree = Tree(12, path(12, 1000000))
        self.assertEqual(errand(tree, 0, 11), list(range(12)))
        self.assertEqual(errand(tree, 11, 11), list(range(11, 0, -1)) + list(range(12)))
        self.assertEqual(long(tree, errand(tree, 5, 6)), 21000000)
        self.assertEqual(len(errand(Tree(12, star(12)), 0, 0)), 23)

    def test_each_road_of_the_way_once_and_each_other_twice(self):
        for tree in many_trees():
            lengths = lengths_of(tree)
            for one in range(tree.size):
                for other in range(tree.size):
                    walk = errand(tree, one, other)
                    self.assertEqual((walk[0], walk[-1]), (one, other))
                    self.assertEqual(set(walk), set(range(tree.size)))
                    taken = [frozenset(step) for step in zip(walk, walk[1:])]
                    line = way(tree, one, other)
                    once = [frozenset(step) for step in zip(line, line[1:])]
                    self.assertTrue(all(tuple(step) in lengths for step in taken), walk)
                    for first, second, length in tree.roads():
                        road = frozenset((first, second))
                        self.assertEqual(taken.count(road), 1 if road in once else 2, walk)

    def test_none_is_shorter(self):
        for tree in list(all_trees(5)) + list(large_trees())[::9]:
            for one in range(tree.size):
                told = slow_shortest(tree, one)
                for other in range(tree.size):
                    self.assertEqual(long(tree, errand(tree, one, other)), told[other], tree.roads())

    def test_twice_all_roads_but_the_way_once(self):
        for tree in large_trees():
            table = table_of(tree)
            total = sum(road[2] for road in tree.roads())
            for one in range(tree.size):
                for other in range(tree.size):
                    told = 2 * total - table[one][other]
                    self.assertEqual(long(tree, errand(tree, one, other)), told)

    def test_no_village(self):
        for village in NO_VILLAGES:
            for one, other in ((village, 0), (0, village), (village, village), (4, village)):
                with self.assertRaises(NoVillage):
                    errand(sample(), one, other)
        with self.assertRaises(NoVillage):
            errand(Tree(1, []), 0, 1)
        with self.assertRaises(NoVillage):
            errand(Tree(1, []), False, 0)


class Long(unittest.TestCase):
    """[10]"""

    def test_by_hand(self):
        self.assertEqual(long(sample(), [0, 1, 2, 1, 3, 4]), 16)
        self.assertEqual(long(sample(), [3, 4, 3, 4]), 3)
        self.assertEqual(long(sample(), [1, 0]), 4)

    def test_less_than_two_villages(self):
        self.assertEqual(long(sample(), []), 0)
        self.assertEqual(long(Tree(1, []), []), 0)
        self.assertEqual(long(Tree(1, []), [0]), 0)
        for village in range(5):
            self.assertEqual(long(sample(), [village]), 0)

    def test_none_where_one_is_no_neighbour_of_the_next(self):
        self.assertIsNone(long(sample(), [0, 2]))
        self.assertIsNone(long(sample(), [0, 0]))
        self.assertIsNone(long(Tree(1, []), [0, 0]))
        self.assertIsNone(long(sample(), [0, 1, 1]))
        self.assertIsNone(long(sample(), [0, 1, 3, 4, 0]))
        self.assertIsNone(long(sample(), [0, 3, 1, 2]))
        self.assertIsNone(long(sample(), [0, 1, 2, 3, 4]))

    def test_every_list_on_small_trees(self):
        for tree in all_trees(4):
            lengths = lengths_of(tree)
            for walk in lists_up_to(4, range(tree.size)):
                told = [lengths.get(step) for step in zip(walk, walk[1:])]
                self.assertEqual(long(tree, walk), None if None in told else sum(told))

    def test_long_walks(self):
        tree = Tree(2, [(1, 0, 1000000)])
        self.assertEqual(long(tree, [0, 1] * 500), 999000000)
        self.assertIsNone(long(tree, [0, 1] * 500 + [1]))

    def test_no_village(self):
        for village in NO_VILLAGES:
            for walk in ([village], [village, 0], [0, village], [0, 1, village], [village, village]):
                with self.assertRaises(NoVillage):
                    long(sample(), walk)

    def test_no_village_is_told_ahead_of_all(self):
        for village in NO_VILLAGES:
            with self.assertRaises(NoVillage):
                long(sample(), [0, 4, 2, 2, village])
            with self.assertRaises(NoVillage):
                long(Tree(1, []), [0, 0, village])


class Lists(unittest.TestCase):
    """[1]"""

    def test_what_is_handed_in_is_neither_changed_nor_kept(self):
        tree, walk = sample(), [0, 1, 3]
        self.assertEqual(long(tree, walk), 11)
        self.assertEqual(walk, [0, 1, 3])
        walk.append(4)
        self.assertEqual(long(tree, walk), 12)
        self.assertEqual(long(tree, [0, 1, 3]), 11)

    def test_each_list_given_back_is_the_askers_own(self):
        tree = sample()
        for one in range(5):
            for other in range(5):
                before = errand(tree, one, other)
                errand(tree, one, other).append("spoilt")
                errand(tree, one, other).clear()
                self.assertEqual(errand(tree, one, other), before)

    def test_asking_changes_no_tree(self):
        tree = sample()
        long(tree, errand(tree, 2, 4))
        self.assertEqual(rows_of(tree), (5, ROADS))


if __name__ == "__main__":
    unittest.main()
