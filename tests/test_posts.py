import inspect
import unittest
from itertools import combinations

from shapes import all_trees, large_trees, lists_up_to, many_trees, path, rows_of, star
from wellroads import posts
from wellroads.posts import Posts, paired
from wellroads.trees import Tree
from wellroads.wells import Answer

# 0 -4- 1 -2- 2, 1 -7- 3, 3 -1- 4, told in no order and either way round.
ROADS = [(3, 1, 7), (0, 1, 4), (4, 3, 1), (2, 1, 2)]


def sample():
    return Tree(5, list(ROADS))


def fields_of(answer):
    return (answer.pairs, answer.posts)


def none_meet(tree, pairs):
    roads = tree.roads()
    ends = [end for at in pairs for end in roads[at][:2]]
    return len(set(ends)) == len(ends)


def each_has_a_post(tree, villages):
    return all(set(road[:2]) & set(villages) for road in tree.roads())


def slow_most_pairs(tree):
    for many in range(tree.size // 2, -1, -1):
        if any(none_meet(tree, pairs) for pairs in combinations(range(tree.size - 1), many)):
            return many


def slow_fewest_posts(tree):
    for many in range(tree.size):
        if any(each_has_a_post(tree, villages) for villages in combinations(range(tree.size), many)):
            return many


class Interface(unittest.TestCase):
    def test_arguments_have_their_names(self):
        self.assertEqual(list(inspect.signature(Posts).parameters), ["pairs", "posts"])
        self.assertEqual(list(inspect.signature(posts.paired).parameters), ["tree"])
        self.assertEqual(list(inspect.signature(Posts.shows).parameters), ["self", "tree", "number"])

    def test_posts_stands_straight_under_answer(self):
        self.assertEqual(Posts.__bases__, (Answer,))

    def test_kinds(self):
        answer = paired(sample())
        self.assertIs(type(answer), Posts)
        self.assertIs(type(answer.pairs), list)
        self.assertIs(type(answer.posts), list)
        self.assertIs(answer.shows(sample(), 2), True)
        self.assertIs(answer.shows(sample(), 3), False)


class Paired(unittest.TestCase):
    """[9]"""

    def test_by_hand(self):
        answer = paired(sample())
        self.assertIn(answer.pairs, ([1, 2], [2, 3]))
        self.assertIn(answer.posts, ([1, 3], [1, 4]))

    def test_one_village(self):
        answer = paired(Tree(1, []))
        self.assertEqual(fields_of(answer), ([], []))
        self.assertIs(answer.shows(Tree(1, []), 0), True)

    def test_two_villages(self):
        for road in ((0, 1, 5), (1, 0, 5)):
            answer = paired(Tree(2, [road]))
            self.assertEqual(answer.pairs, [0])
            self.assertIn(answer.posts, ([0], [1]))

    def test_paths_and_stars(self):
        self.assertEqual(paired(Tree(12, path(12))).pairs, [0, 2, 4, 6, 8, 10])
        self.assertEqual(len(paired(Tree(12, path(12))).posts), 6)
        self.assertEqual(paired(Tree(11, path(11))).posts, [1, 3, 5, 7, 9])
        for middle in (0, 5, 11):
            answer = paired(Tree(12, star(12, middle, 9)))
            self.assertEqual((len(answer.pairs), answer.posts), (1, [middle]))

    def test_many_trees(self):
        for tree in many_trees():
            answer = paired(tree)
            where = (tree.roads(), answer.pairs, answer.posts)
            self.assertEqual(sorted(set(answer.pairs)), answer.pairs, where)
            self.assertEqual(sorted(set(answer.posts)), answer.posts, where)
            self.assertTrue(set(answer.pairs) <= set(range(tree.size - 1)), where)
            self.assertTrue(set(answer.posts) <= set(range(tree.size)), where)
            self.assertEqual(len(answer.pairs), len(answer.posts), where)
            self.assertTrue(none_meet(tree, answer.pairs), where)
            self.assertTrue(each_has_a_post(tree, answer.posts), where)
            for number in range(13):
                self.assertIs(answer.shows(tree, number), number == len(answer.pairs), where)

    def test_no_more_pairs_and_no_fewer_posts(self):
        for tree in many_trees():
            answer = paired(tree)
            self.assertEqual(len(answer.pairs), slow_most_pairs(tree), tree.roads())
            self.assertEqual(len(answer.posts), slow_fewest_posts(tree), tree.roads())


class Shows(unittest.TestCase):
    """[9], of answers made by hand"""

    def shown(self, pairs, villages, number):
        return Posts(pairs, villages).shows(sample(), number)

    def test_by_hand(self):
        self.assertIs(self.shown([1, 2], [1, 3], 2), True)
        self.assertIs(self.shown([2, 3], [1, 4], 2), True)
        self.assertIs(self.shown([0, 2], [1, 3], 2), False)
        self.assertIs(self.shown([1, 2], [0, 3], 2), False)
        self.assertIs(self.shown([1, 3], [1, 3], 2), False)

    def test_lists_need_not_rise(self):
        self.assertIs(self.shown([2, 1], [3, 1], 2), True)
        self.assertIs(self.shown([3, 2], [1, 4], 2), True)

    def test_how_many(self):
        for number in (-2, -1, 0, 1, 3, 12, 13, 10 ** 5000):
            self.assertIs(self.shown([1, 2], [1, 3], number), False)
        self.assertIs(self.shown([], [], 0), False)
        self.assertIs(self.shown([], [], 2), False)

    def test_told_twice(self):
        tree = Tree(3, path(3))
        self.assertIs(Posts([0], [1]).shows(tree, 1), True)
        self.assertIs(Posts([0, 0], [1, 1]).shows(tree, 2), False)
        self.assertIs(Posts([0, 0], [1, 0]).shows(tree, 2), False)
        self.assertIs(Posts([0], [1, 1]).shows(tree, 1), False)
        self.assertIs(Posts([0, 0], [1]).shows(tree, 1), False)
        self.assertIs(self.shown([1, 2], [1, 3, 3], 2), False)
        self.assertIs(self.shown([1, 2, 2], [1, 3, 3], 3), False)
        self.assertIs(self.shown([1, 1], [1, 3], 2), False)

    def test_one_too_many_or_too_few(self):
        self.assertIs(self.shown([1, 2, 3], [1, 3], 2), False)
        self.assertIs(self.shown([1, 2], [1, 3, 4], 2), False)
        self.assertIs(self.shown([1, 2, 3], [1, 3, 4], 3), False)
        self.assertIs(self.shown([1], [1, 3], 2), False)
        self.assertIs(self.shown([1, 2], [1], 2), False)
        self.assertIs(self.shown([1], [1], 1), False)

    def test_what_is_no_number_shows_nothing(self):
        tree = Tree(2, [(0, 1, 1)])
        self.assertIs(Posts([0], [1]).shows(tree, 1), True)
        self.assertIs(Posts([0], [1]).shows(tree, True), False)
        self.assertIs(Posts([], []).shows(Tree(1, []), 0), True)
        self.assertIs(Posts([], []).shows(Tree(1, []), False), False)
        self.assertIs(Posts([False], [1]).shows(tree, 1), False)
        self.assertIs(Posts([0], [True]).shows(tree, 1), False)
        self.assertIs(Posts([0], [False]).shows(tree, 1), False)

    def test_what_is_no_road_or_no_village_shows_nothing(self):
        for number in (-1, -2, -3, 4, 12, 10 ** 5000, None, "1", [1]):
            self.assertIs(self.shown([1, number], [1, 3], 2), False)
        for number in (-1, -2, 5, 12, 10 ** 5000, None, "1", [1]):
            self.assertIs(self.shown([1, 2], [1, number], 2), False)
        # There is a village 4, but no road 4, and no post at a village that isn't there.
        self.assertIs(self.shown([4, 1], [1, 3], 2), False)
        self.assertIs(self.shown([-2, -3], [1, 3], 2), False)
        self.assertIs(Posts([], [1]).shows(Tree(1, []), 0), False)
        self.assertIs(Posts([0], [0]).shows(Tree(1, []), 1), False)

    def test_fields_as_they_stand_then(self):
        answer = Posts([1, 2], [1, 3])
        answer.pairs.append(3)
        self.assertIs(answer.shows(sample(), 2), False)
        answer.pairs = [3, 2]
        answer.posts = [4, 1]
        self.assertIs(answer.shows(sample(), 2), True)
        answer.posts[0] = 0
        self.assertIs(answer.shows(sample(), 2), False)
        answer = paired(sample())
        answer.posts.pop()
        self.assertIs(answer.shows(sample(), 2), False)

    def test_another_tree(self):
        answer = paired(sample())
        self.assertIs(answer.shows(Tree(5, path(5)), 2), False)
        self.assertIs(answer.shows(Tree(5, star(5)), 2), False)
        self.assertIs(answer.shows(Tree(1, []), 2), False)

    def test_every_answer_on_small_trees(self):
        for tree in all_trees(4):
            most = slow_most_pairs(tree)
            road_lists = list(lists_up_to(min(most + 1, 2), range(tree.size - 1)))
            village_lists = list(lists_up_to(most + 1, range(tree.size)))
            for pairs in road_lists:
                for villages in village_lists:
                    right = none_meet(tree, pairs) and each_has_a_post(tree, villages)
                    for number in range(4):
                        told = right and len(pairs) == len(villages) == number
                        self.assertIs(Posts(pairs, villages).shows(tree, number), told, tree.roads())

    def test_every_answer_without_one_or_with_one_more(self):
        for tree in large_trees():
            pairs, villages = fields_of(paired(tree))
            many = len(pairs)
            for number in range(many - 1, many + 2):
                self.assertFalse(Posts(pairs[1:], villages).shows(tree, number))
                self.assertFalse(Posts(pairs, villages[1:]).shows(tree, number))
                self.assertFalse(Posts(pairs[1:], villages[1:]).shows(tree, number))
                for more in range(tree.size):
                    self.assertFalse(Posts(pairs + [more], villages).shows(tree, number))
                    self.assertFalse(Posts(pairs, villages + [more]).shows(tree, number))
                    self.assertFalse(Posts(pairs + [more % 11], villages + [more]).shows(tree, number))


class Lists(unittest.TestCase):
    """[1]"""

    def test_what_is_handed_in_is_neither_changed_nor_kept(self):
        pairs, villages = [2, 1], [3, 1]
        answer = Posts(pairs, villages)
        self.assertTrue(answer.shows(sample(), 2))
        self.assertEqual((pairs, villages), ([2, 1], [3, 1]))
        self.assertEqual(fields_of(answer), ([2, 1], [3, 1]))
        pairs.append(0)
        villages.clear()
        self.assertEqual(fields_of(answer), ([2, 1], [3, 1]))
        self.assertTrue(answer.shows(sample(), 2))
        same = [0]
        answer = Posts(same, same)
        answer.pairs.append(1)
        self.assertEqual((same, answer.posts), ([0], [0]))

    def test_each_list_given_back_is_the_askers_own(self):
        tree = sample()
        before = fields_of(paired(tree))
        spoilt = paired(tree)
        spoilt.pairs.append("spoilt")
        spoilt.posts.clear()
        self.assertEqual(fields_of(paired(tree)), before)

    def test_asking_changes_no_tree(self):
        tree = sample()
        paired(tree).shows(tree, 2)
        self.assertEqual(rows_of(tree), (5, ROADS))


if __name__ == "__main__":
    unittest.main()
