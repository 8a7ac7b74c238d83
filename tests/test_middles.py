import inspect
import unittest

from shapes import many_trees, path, rows_of, star, table_of
from wellroads import middles
from wellroads.errors import BadNumber
from wellroads.middles import centres, longest, medians, walks
from wellroads.trees import Tree, sides

# 0 -4- 1 -2- 2, 1 -7- 3, 3 -1- 4, told in no order and either way round.
ROADS = [(3, 1, 7), (0, 1, 4), (4, 3, 1), (2, 1, 2)]


def sample():
    return Tree(5, list(ROADS))


def peoples(size):
    """People for each village: nowhere any, the most, and several uneven ones."""
    yield [0] * size
    yield [1] * size
    yield [1000000] * size
    yield [(5 * village + 2) % 4 for village in range(size)]
    yield [1000000 * (village % 2) for village in range(size)]
    yield [0] * (size - 1) + [7]
    yield [3] + [0] * (size - 1)


class Interface(unittest.TestCase):
    def test_arguments_have_their_names(self):
        told = {
            "longest": ["tree"],
            "centres": ["tree"],
            "walks": ["tree", "people"],
            "medians": ["tree", "people"],
        }
        for name, arguments in told.items():
            self.assertEqual(list(inspect.signature(getattr(middles, name)).parameters), arguments, name)

    def test_kinds(self):
        self.assertIs(type(longest(sample())), tuple)
        self.assertIs(type(centres(sample())), tuple)
        self.assertIs(type(medians(sample(), [1] * 5)), tuple)
        self.assertIs(type(walks(sample(), [1] * 5)), list)


class Longest(unittest.TestCase):
    """[4]"""

    def test_by_hand(self):
        self.assertEqual(longest(sample()), (0, 4, 12))

    def test_one_village(self):
        self.assertEqual(longest(Tree(1, [])), (0, 0, 0))

    def test_two_villages(self):
        self.assertEqual(longest(Tree(2, [(1, 0, 1)])), (0, 1, 1))

    def test_the_longest_there_can_be(self):
        self.assertEqual(longest(Tree(12, path(12, 1000000))), (0, 11, 11000000))

    def test_of_several_the_first(self):
        self.assertEqual(longest(Tree(12, star(12))), (1, 2, 2))
        self.assertEqual(longest(Tree(4, star(4, 3))), (0, 1, 2))
        # Far apart are 0 and 5, 1 and 4, 1 and 5, 0 and 4.
        tree = Tree(6, [(3, 5, 1), (3, 4, 1), (2, 3, 6), (1, 2, 1), (2, 0, 1)])
        self.assertEqual(longest(tree), (0, 4, 8))

    def test_the_lesser_number_stands_first_however_the_roads_are_told(self):
        self.assertEqual(longest(Tree(5, [(3, 0, 2), (3, 4, 3), (3, 1, 1), (3, 2, 4)])), (2, 4, 7))
        self.assertEqual(longest(Tree(3, [(2, 1, 5), (1, 0, 5)])), (0, 2, 10))

    def test_many_trees(self):
        for tree in many_trees():
            table = table_of(tree)
            pairs = [(one, other) for other in range(tree.size) for one in range(other)]
            most = max((table[one][other] for one, other in pairs), default=0)
            firsts = sorted(pair for pair in pairs if table[pair[0]][pair[1]] == most)
            told = firsts[0] if firsts else (0, 0)
            self.assertEqual(longest(tree), told + (most,), tree.roads())


class Centres(unittest.TestCase):
    """[5]"""

    def test_by_hand(self):
        self.assertEqual(centres(sample()), ([1], 8))

    def test_one_village(self):
        self.assertEqual(centres(Tree(1, [])), ([0], 0))

    def test_two_centres(self):
        self.assertEqual(centres(Tree(2, [(1, 0, 9)])), ([0, 1], 9))
        self.assertEqual(centres(Tree(12, path(12))), ([5, 6], 6))
        self.assertEqual(centres(Tree(4, [(3, 1, 1), (3, 0, 2), (0, 2, 1)])), ([0, 3], 3))

    def test_one_centre(self):
        self.assertEqual(centres(Tree(12, star(12, 7, 1000000))), ([7], 1000000))
        self.assertEqual(centres(Tree(11, path(11))), ([5], 5))

    def test_many_trees(self):
        for tree in many_trees():
            farthest = [max(row) for row in table_of(tree)]
            nearest = min(farthest)
            villages = [village for village in range(tree.size) if farthest[village] == nearest]
            self.assertEqual(centres(tree), (villages, nearest), tree.roads())


class Walks(unittest.TestCase):
    """[6]"""

    def test_by_hand(self):
        people = [3, 0, 5, 1, 2]
        self.assertEqual(walks(sample(), people), [65, 45, 47, 80, 87])
        self.assertEqual(medians(sample(), people), ([1], 45))

    def test_one_village(self):
        for many in (0, 1, 1000000):
            self.assertEqual(walks(Tree(1, []), [many]), [0])
            self.assertEqual(medians(Tree(1, []), [many]), ([0], 0))

    def test_nowhere_any_people(self):
        tree = Tree(12, star(12))
        self.assertEqual(walks(tree, [0] * 12), [0] * 12)
        self.assertEqual(medians(tree, [0] * 12), (list(range(12)), 0))

    def test_several_medians(self):
        self.assertEqual(medians(Tree(2, [(1, 0, 4)]), [6, 6]), ([0, 1], 24))
        self.assertEqual(medians(Tree(4, path(4, 2)), [1, 0, 0, 1]), ([0, 1, 2, 3], 6))

    def test_the_most_there_can_be(self):
        tree = Tree(12, path(12, 1000000))
        self.assertEqual(walks(tree, [1000000] * 12)[0], 66 * 10 ** 12)
        self.assertEqual(medians(tree, [1000000] * 12), ([5, 6], 36 * 10 ** 12))

    def test_many_trees(self):
        for tree in many_trees():
            table = table_of(tree)
            for people in peoples(tree.size):
                told = [sum(many * row[village] for village, many in enumerate(people)) for row in table]
                self.assertEqual(walks(tree, people), told)
                villages = [village for village in range(tree.size) if told[village] == min(told)]
                self.assertEqual(medians(tree, people), (villages, min(told)))

    def test_no_more_than_half_are_on_each_other_side_of_a_median(self):
        for tree in many_trees():
            for people in peoples(tree.size):
                light = []
                for village in range(tree.size):
                    beyond = []
                    for at, road in enumerate(tree.roads()):
                        if village in road[:2]:
                            first, second = sides(tree, at)
                            other = second if village in first else first
                            beyond.append(sum(people[there] for there in other))
                    if all(2 * many <= sum(people) for many in beyond):
                        light.append(village)
                self.assertEqual(medians(tree, people)[0], light, (tree.roads(), people))

    def test_bad_numbers(self):
        wrong = [
            [], [1] * 4, [1] * 6, None, 5, "11111", (1, 1, 1, 1, 1), {0: 1, 1: 1, 2: 1, 3: 1, 4: 1},
        ]
        for many in (-1, 1000001, 10 ** 5000, True, False, None, "1", [1]):
            wrong.append([many, 1, 1, 1, 1])
            wrong.append([1, 1, 1, 1, many])
        for people in wrong:
            for asked in (walks, medians):
                with self.assertRaises(BadNumber):
                    asked(sample(), people)
        for people in ([], [1, 1], [True], [-1], 1):
            for asked in (walks, medians):
                with self.assertRaises(BadNumber):
                    asked(Tree(1, []), people)


class Lists(unittest.TestCase):
    """[1]"""

    def test_people_are_neither_changed_nor_kept(self):
        tree, people = sample(), [3, 0, 5, 1, 2]
        walks(tree, people)
        medians(tree, people)
        self.assertEqual(people, [3, 0, 5, 1, 2])
        people[0] = 1000000
        people.append(9)
        self.assertEqual(walks(tree, [3, 0, 5, 1, 2]), [65, 45, 47, 80, 87])

    def test_each_list_given_back_is_the_askers_own(self):
        tree, people = sample(), [3, 0, 5, 1, 2]
        askings = (
            lambda: centres(tree)[0],
            lambda: walks(tree, people),
            lambda: medians(tree, people)[0],
        )
        before = [asking() for asking in askings]
        for asking in askings:
            asking().append("spoilt")
            asking().clear()
        self.assertEqual([asking() for asking in askings], before)

    def test_asking_changes_no_tree(self):
        tree = sample()
        longest(tree)
        centres(tree)
        medians(tree, [1] * 5)
        self.assertEqual(rows_of(tree), (5, ROADS))


if __name__ == "__main__":
    unittest.main()
