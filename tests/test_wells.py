import inspect
import unittest
from itertools import combinations

from shapes import all_trees, large_trees, lists_up_to, many_trees, path, rows_of, star, table_of
from wellroads import wells
from wellroads.errors import BadNumber
from wellroads.trees import Tree
from wellroads.wells import Answer, Wells, dug, least_walk

# 0 -4- 1 -2- 2, 1 -7- 3, 3 -1- 4, told in no order and either way round.
ROADS = [(3, 1, 7), (0, 1, 4), (4, 3, 1), (2, 1, 2)]
NO_NUMBERS = (True, False, None, "1", "", [1], (1,), {})


def sample():
    return Tree(5, list(ROADS))


def fields_of(answer):
    return (answer.wells, answer.callers)


def all_near(table, villages, walk):
    return all(any(row[village] <= walk for village in villages) for row in table)


def none_near_two(table, villages, walk):
    return all(sum(row[village] <= walk for village in villages) <= 1 for row in table)


def slow_fewest(table, walk):
    size = len(table)
    for many in range(1, size + 1):
        for villages in combinations(range(size), many):
            if all_near(table, villages, walk):
                return many


def slow_least_walks(table):
    """The least walk for 1, 2, .. wells, over every choice of villages for them."""
    size = len(table)
    nearest = {0: None}
    least = [None] * (size + 1)
    for chosen in range(1, 1 << size):
        low = (chosen & -chosen).bit_length() - 1
        rest = nearest[chosen & (chosen - 1)]
        nearest[chosen] = table[low] if rest is None else list(map(min, rest, table[low]))
        many = bin(chosen).count("1")
        farthest = max(nearest[chosen])
        if least[many] is None or farthest < least[many]:
            least[many] = farthest
    return least[1:]


def some_walks(table):
    """0, the longest walk, and for some of the ways that there are just as long, one less and one more."""
    lengths = sorted({length for row in table for length in row})
    picked = lengths if len(table) < 12 else lengths[::max(1, len(lengths) // 4)]
    walks = {0, 12000000}
    for length in picked:
        walks.update((max(0, length - 1), length, length + 1))
    return sorted(walks)


class Interface(unittest.TestCase):
    def test_arguments_have_their_names(self):
        told = {"Wells": ["wells", "callers"], "dug": ["tree", "walk"], "least_walk": ["tree", "many"]}
        for name, arguments in told.items():
            self.assertEqual(list(inspect.signature(getattr(wells, name)).parameters), arguments, name)
        for kind in (Answer, Wells):
            self.assertEqual(list(inspect.signature(kind.shows).parameters), ["self", "tree", "number"])

    def test_wells_stands_straight_under_answer(self):
        self.assertEqual(Wells.__bases__, (Answer,))
        self.assertIn("shows", vars(Answer))

    def test_kinds(self):
        answer = dug(sample(), 4)
        self.assertIs(type(answer), Wells)
        self.assertIs(type(answer.wells), list)
        self.assertIs(type(answer.callers), list)
        self.assertIs(type(least_walk(sample(), 2)), int)
        self.assertIs(answer.shows(sample(), 4), True)
        self.assertIs(answer.shows(sample(), 3), False)

    def test_an_answer_without_fields_shows_nothing(self):
        self.assertIs(Answer().shows(sample(), 4), False)


class Dug(unittest.TestCase):
    """[7]"""

    def test_by_hand(self):
        # Within 4 of each other are 0, 1 and 1, 2 and 3, 4; so one well is at 1, one at 3 or 4.
        answer = dug(sample(), 4)
        self.assertIn(answer.wells, ([1, 3], [1, 4]))
        self.assertEqual(len(answer.callers), 2)
        self.assertTrue(answer.shows(sample(), 4))
        answer = dug(sample(), 8)
        self.assertEqual(answer.wells, [1])
        self.assertEqual(len(answer.callers), 1)

    def test_one_village(self):
        for walk in (0, 1, 12000000):
            self.assertEqual(fields_of(dug(Tree(1, []), walk)), ([0], [0]))

    def test_a_walk_of_nothing_needs_a_well_everywhere(self):
        for tree in many_trees():
            everywhere = list(range(tree.size))
            self.assertEqual(fields_of(dug(tree, 0)), (everywhere, everywhere))

    def test_the_longest_walk_needs_one_well(self):
        for tree in many_trees():
            answer = dug(tree, 12000000)
            self.assertEqual((len(answer.wells), len(answer.callers)), (1, 1))
            self.assertTrue(answer.shows(tree, 12000000))

    def test_just_as_far_as_the_walk_is_within_it(self):
        tree = Tree(2, [(1, 0, 1000000)])
        self.assertEqual(len(dug(tree, 1000000).wells), 1)
        self.assertEqual(len(dug(tree, 999999).wells), 2)

    def test_paths_and_stars(self):
        self.assertEqual(dug(Tree(12, path(12)), 1).wells, [1, 4, 7, 10])
        self.assertEqual(len(dug(Tree(11, path(11)), 1).wells), 4)
        self.assertEqual(len(dug(Tree(12, path(12)), 2).wells), 3)
        self.assertEqual(len(dug(Tree(12, path(12)), 5).wells), 2)
        self.assertEqual(len(dug(Tree(12, path(12)), 6).wells), 1)
        for middle in (0, 5, 11):
            self.assertEqual(dug(Tree(12, star(12, middle, 9)), 9).wells, [middle])
            self.assertEqual(len(dug(Tree(12, star(12, middle, 9)), 8).wells), 12)

    def test_many_trees(self):
        for tree in many_trees():
            table = table_of(tree)
            for walk in some_walks(table):
                answer = dug(tree, walk)
                where = (tree.roads(), walk, answer.wells, answer.callers)
                for villages in fields_of(answer):
                    self.assertEqual(sorted(set(villages)), villages, where)
                    self.assertTrue(set(villages) <= set(range(tree.size)), where)
                self.assertEqual(len(answer.wells), len(answer.callers), where)
                self.assertTrue(all_near(table, answer.wells, walk), where)
                self.assertTrue(none_near_two(table, answer.callers, walk), where)
                self.assertTrue(answer.shows(tree, walk), where)

    def test_fewer_wells_leave_some_village_out(self):
        for tree in list(all_trees(5)) + list(large_trees())[::5]:
            table = table_of(tree)
            for walk in some_walks(table):
                self.assertEqual(len(dug(tree, walk).wells), slow_fewest(table, walk), (tree.roads(), walk))

    def test_bad_numbers(self):
        for walk in (-1, -12000000, 12000001, 10 ** 5000) + NO_NUMBERS:
            for tree in (sample(), Tree(1, [])):
                with self.assertRaises(BadNumber):
                    dug(tree, walk)


class Shows(unittest.TestCase):
    """[7], of answers made by hand"""

    def shown(self, wells, callers, walk):
        return Wells(wells, callers).shows(sample(), walk)

    def test_by_hand(self):
        self.assertIs(self.shown([1, 3], [0, 4], 4), True)
        self.assertIs(self.shown([1, 4], [2, 3], 4), True)
        self.assertIs(self.shown([1], [2], 8), True)
        self.assertIs(self.shown([0, 1, 2, 3, 4], [0, 1, 2, 3, 4], 0), True)

    def test_lists_need_not_rise(self):
        self.assertIs(self.shown([3, 1], [4, 0], 4), True)
        self.assertIs(self.shown([4, 1], [0, 3], 4), True)
        self.assertIs(self.shown([2, 0, 4, 3, 1], [4, 3, 2, 1, 0], 0), True)

    def test_told_twice_is_two(self):
        self.assertIs(self.shown([1, 3, 3], [0, 4], 4), False)
        self.assertIs(self.shown([1, 3], [0, 4, 4], 4), False)
        self.assertIs(self.shown([1, 3, 3], [0, 4, 4], 4), False)
        self.assertIs(self.shown([1, 1], [0, 0], 8), False)
        self.assertIs(self.shown([1, 1], [0, 2], 12000000), False)
        self.assertIs(Wells([0, 0], [0, 0]).shows(Tree(1, []), 0), False)

    def test_one_too_many_or_too_few(self):
        self.assertIs(self.shown([1, 2, 3], [0, 4], 4), False)
        self.assertIs(self.shown([1, 2, 3], [0, 2, 4], 4), False)
        self.assertIs(self.shown([1, 3], [0], 4), False)
        self.assertIs(self.shown([1], [0, 4], 4), False)
        self.assertIs(self.shown([1], [0], 4), False)
        self.assertIs(self.shown([1, 3], [], 4), False)
        self.assertIs(self.shown([], [], 4), False)
        self.assertIs(Wells([], []).shows(Tree(1, []), 0), False)

    def test_the_walk_counts(self):
        answer = Wells([1, 3], [0, 4])
        told = [walk for walk in range(14) if answer.shows(sample(), walk)]
        # With less than 4 village 0 has no well; with 8 both callers are within the walk of 1.
        self.assertEqual(told, [4, 5, 6, 7])
        self.assertIs(answer.shows(sample(), 12000000), False)
        self.assertIs(Wells([2], [4]).shows(sample(), 12000000), True)

    def test_a_walk_beyond_the_longest_is_no_fault(self):
        self.assertIs(self.shown([1], [0], 12000001), True)
        self.assertIs(self.shown([1, 3], [0, 4], 12000001), False)
        self.assertIs(self.shown([0, 1, 2, 3, 4], [0, 1, 2, 3, 4], -1), False)

    def test_what_is_no_number_shows_nothing(self):
        tree = Tree(3, path(3))
        self.assertIs(Wells([1], [0]).shows(tree, 1), True)
        self.assertIs(Wells([1], [0]).shows(tree, True), False)
        self.assertIs(Wells([0], [0]).shows(Tree(1, []), 0), True)
        self.assertIs(Wells([0], [0]).shows(Tree(1, []), False), False)
        self.assertIs(Wells([True], [0]).shows(tree, 1), False)
        self.assertIs(Wells([1], [False]).shows(tree, 1), False)

    def test_what_is_no_village_shows_nothing(self):
        for village in (-1, -4, 5, 12, 10 ** 5000, None, "1", [1]):
            self.assertIs(self.shown([village], [0], 8), False)
            self.assertIs(self.shown([1], [village], 8), False)
            self.assertIs(self.shown([1, village], [0, 4], 4), False)
            self.assertIs(self.shown([1, 3], [0, village], 4), False)
        # -4 and -1 would be 1 and 4 if they were counted from behind.
        self.assertIs(self.shown([-4, 3], [0, -1], 4), False)

    def test_another_tree(self):
        answer = dug(sample(), 4)
        self.assertTrue(answer.shows(sample(), 4))
        self.assertFalse(answer.shows(Tree(5, path(5, 5)), 4))
        self.assertFalse(answer.shows(Tree(1, []), 4))

    def test_fields_as_they_stand_then(self):
        answer = Wells([1, 3], [0, 4])
        answer.wells.append(2)
        self.assertIs(answer.shows(sample(), 4), False)
        answer.callers.append(2)
        self.assertIs(answer.shows(sample(), 4), False)
        answer.wells = [4, 1]
        answer.callers = [3, 2]
        self.assertIs(answer.shows(sample(), 4), True)
        answer.callers[0] = 1
        self.assertIs(answer.shows(sample(), 4), False)
        answer = dug(sample(), 8)
        answer.wells.clear()
        self.assertIs(answer.shows(sample(), 8), False)
        answer.wells.append(1)
        self.assertIs(answer.shows(sample(), 8), True)

    def test_every_answer_on_small_trees(self):
        for tree in all_trees(3):
            table = table_of(tree)
            lists = list(lists_up_to(tree.size + 1, range(tree.size)))
            for walk in some_walks(table):
                fewest = slow_fewest(table, walk)
                for told in lists:
                    for callers in lists:
                        right = len(told) == len(callers) == fewest
                        right = right and all_near(table, told, walk) and none_near_two(table, callers, walk)
                        self.assertIs(Wells(told, callers).shows(tree, walk), right, (tree.roads(), walk))

    def test_every_answer_without_one_or_with_one_more(self):
        for tree in large_trees():
            for walk in (0, 3, 1000000):
                answer = dug(tree, walk)
                right = fields_of(answer)
                for village in range(tree.size):
                    self.assertFalse(Wells(right[0] + [village], right[1]).shows(tree, walk))
                    self.assertFalse(Wells(right[0], right[1] + [village]).shows(tree, walk))
                    self.assertFalse(Wells(right[0] + [village], right[1] + [village]).shows(tree, walk))
                self.assertFalse(Wells(right[0][1:], right[1]).shows(tree, walk))
                self.assertFalse(Wells(right[0], right[1][1:]).shows(tree, walk))
                self.assertFalse(Wells(right[0][1:], right[1][1:]).shows(tree, walk))


class LeastWalk(unittest.TestCase):
    """[8]"""

    def test_by_hand(self):
        self.assertEqual([least_walk(sample(), many) for many in range(1, 7)], [8, 4, 2, 1, 0, 0])

    def test_one_village(self):
        for many in (1, 2, 12):
            self.assertEqual(least_walk(Tree(1, []), many), 0)

    def test_two_villages(self):
        tree = Tree(2, [(1, 0, 1000000)])
        self.assertEqual([least_walk(tree, many) for many in (1, 2, 12)], [1000000, 0, 0])

    def test_twelve_villages(self):
        tree = Tree(12, path(12, 1000000))
        self.assertEqual(least_walk(tree, 1), 6000000)
        self.assertEqual(least_walk(tree, 11), 1000000)
        self.assertEqual(least_walk(tree, 12), 0)
        self.assertEqual(least_walk(Tree(12, star(12, 4, 7)), 1), 7)
        self.assertEqual(least_walk(Tree(12, star(12, 4, 7)), 11), 7)

    def test_many_trees(self):
        for tree in many_trees():
            told = slow_least_walks(table_of(tree))
            told += [0] * (12 - tree.size)
            self.assertEqual([least_walk(tree, many) for many in range(1, 13)], told, tree.roads())

    def test_one_step_less_is_too_little(self):
        for tree in large_trees():
            for many in (1, 2, 5):
                walk = least_walk(tree, many)
                self.assertLessEqual(len(dug(tree, walk).wells), many)
                self.assertGreater(len(dug(tree, walk - 1).wells), many)

    def test_bad_numbers(self):
        for many in (0, -1, 13, 10 ** 5000) + NO_NUMBERS:
            for tree in (sample(), Tree(1, []), Tree(12, path(12))):
                with self.assertRaises(BadNumber):
                    least_walk(tree, many)


class Lists(unittest.TestCase):
    """[1]"""

    def test_what_is_handed_in_is_neither_changed_nor_kept(self):
        told, callers = [3, 1], [4, 0]
        answer = Wells(told, callers)
        self.assertTrue(answer.shows(sample(), 4))
        self.assertEqual((told, callers), ([3, 1], [4, 0]))
        self.assertEqual(fields_of(answer), ([3, 1], [4, 0]))
        told.append(2)
        callers.clear()
        self.assertEqual(fields_of(answer), ([3, 1], [4, 0]))
        self.assertTrue(answer.shows(sample(), 4))
        same = [0]
        answer = Wells(same, same)
        answer.wells.append(1)
        self.assertEqual((same, answer.callers), ([0], [0]))

    def test_showing_changes_no_field(self):
        answer = Wells([3, 1, 3], [4, 0, 9])
        answer.shows(sample(), 4)
        self.assertEqual(fields_of(answer), ([3, 1, 3], [4, 0, 9]))

    def test_each_list_given_back_is_the_askers_own(self):
        tree = sample()
        for walk in (0, 4, 12000000):
            before = fields_of(dug(tree, walk))
            spoilt = dug(tree, walk)
            spoilt.wells.append("spoilt")
            spoilt.callers.clear()
            self.assertEqual(fields_of(dug(tree, walk)), before)

    def test_asking_changes_no_tree(self):
        tree = sample()
        dug(tree, 4).shows(tree, 4)
        least_walk(tree, 2)
        self.assertEqual(rows_of(tree), (5, ROADS))

    def test_roads_may_be_changed_afterwards(self):
        roads = list(ROADS)
        tree = Tree(5, roads)
        before = fields_of(dug(tree, 4)), least_walk(tree, 2)
        roads[0] = (3, 1, 1)
        roads.pop()
        tree.roads().clear()
        self.assertEqual((fields_of(dug(tree, 4)), least_walk(tree, 2)), before)


if __name__ == "__main__":
    unittest.main()
