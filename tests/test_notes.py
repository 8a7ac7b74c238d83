import inspect
import re
import unittest

from shapes import many_trees, path, rows_of
from wellroads import notes
from wellroads.errors import BadRow, BadTree
from wellroads.notes import read, written
from wellroads.trees import Tree

# 0 -4- 1 -2- 2, 1 -7- 3, 3 -1- 4, told in no order and either way round.
ROADS = [(3, 1, 7), (0, 1, 4), (4, 3, 1), (2, 1, 2)]
TEXT = "villages 5\n3-1 7\n0-1 4\n4-3 1\n2-1 2"
SIGNS = "".join(chr(number) for number in range(32, 127)) + "\t\n"
NUMBER = "(0|[1-9][0-9]{0,6})"


def sample():
    return Tree(5, list(ROADS))


def slow_read(text):
    """What is read, or the number of the row that is refused, by patterns over the rows."""
    rows = text.split("\n")
    head = re.fullmatch("villages ([1-9][0-9]{0,6})", rows[0])
    if not head:
        return 1
    roads = []
    for number, row in enumerate(rows[1:], 2):
        told = re.fullmatch(f"{NUMBER}-{NUMBER} {NUMBER}", row)
        if not told:
            return number
        roads.append(tuple(int(part) for part in told.groups()))
    try:
        return rows_of(Tree(int(head[1]), roads))
    except BadTree:
        return len(rows) + 1


def outcome(text):
    try:
        return rows_of(read(text))
    except BadRow as refused:
        return refused.row


class Interface(unittest.TestCase):
    def test_arguments_have_their_names(self):
        self.assertEqual(list(inspect.signature(notes.written).parameters), ["tree"])
        self.assertEqual(list(inspect.signature(notes.read).parameters), ["text"])

    def test_kinds(self):
        self.assertIs(type(written(sample())), str)
        self.assertIs(type(read(TEXT)), Tree)


class Written(unittest.TestCase):
    """[11]"""

    def test_by_hand(self):
        self.assertEqual(written(sample()), TEXT)
        self.assertEqual(written(Tree(1, [])), "villages 1")
        self.assertEqual(written(Tree(2, [(1, 0, 1000000)])), "villages 2\n1-0 1000000")
        told = ["villages 12"] + [f"{village}-{village + 1} 10" for village in range(11)]
        self.assertEqual(written(Tree(12, path(12, 10))), "\n".join(told))

    def test_read_again(self):
        for tree in many_trees():
            self.assertEqual(rows_of(read(written(tree))), rows_of(tree))


class Read(unittest.TestCase):
    """[11]"""

    def refused(self, text, row):
        with self.assertRaises(BadRow) as caught:
            read(text)
        self.assertEqual(caught.exception.row, row, repr(text))
        self.assertIs(type(caught.exception.row), int)

    def test_by_hand(self):
        self.assertEqual(rows_of(read(TEXT)), (5, ROADS))
        self.assertEqual(rows_of(read("villages 1")), (1, []))
        self.assertEqual(rows_of(read("villages 2\n1-0 1000000")), (2, [(1, 0, 1000000)]))

    def test_empty_texts(self):
        self.refused("", 1)
        self.refused("\n", 1)
        self.refused("\n\n", 1)
        self.refused(" ", 1)
        self.refused("\t", 1)
        self.refused("\nvillages 1", 1)

    def test_first_row(self):
        wrong = (
            "villages", "villages ", "villages  1", " villages 1", "villages 1 ", "villages\t1", "villages 1\t",
            "villages 0", "villages 00", "villages 01", "villages +1", "villages -1", "villages 1.", "villages 1_0",
            "villages one", "Villages 1", "village 1", "VILLAGES 1", "villages1", "villages:1", "1", "1 villages",
            "villages 12345678", "villages 00000001", "villages 1 1", "villages 1-1", "0-1 1", "villages villages",
        )
        for row in wrong:
            self.refused(row, 1)
            self.refused(row + "\n0-1 1", 1)
            self.refused(row + "\nspoilt", 1)

    def test_line_feeds(self):
        self.refused("villages 1\n", 2)
        self.refused(TEXT + "\n", 6)
        self.refused(TEXT + "\n\n", 6)
        self.refused("villages 2\n\n0-1 1", 2)
        self.refused("villages 3\n0-1 1\n\n1-2 1", 3)
        self.refused("\n" + TEXT, 1)

    def test_road_rows(self):
        wrong = (
            "", " ", "\t", "0-1", "0-1 ", " 0-1 1", "0-1 1 ", "0-1  1", "0-1\t1", "0-1 1\t", "0 -1 1", "0- 1 1",
            "0 - 1 1", "0--1 1", "-0-1 1", "0-1- 1", "0-1 -1", "0-1 +1", "+0-1 1", "0-+1 1", "0-1-1", "0 1 1", "0-1 1 1",
            "0-1 1-1", "01 1", "0_1 1", "0-1 1_0", "0-1 01", "00-1 1", "0-01 1", "0-1 00", "0-1 1.0", "0-1 1e3",
            "0-1 0x1", "a-b c", "-", "- ", " -", "-1 1", "0- 1", "0-1 12345678", "12345678-1 1", "0-12345678 1",
            "0-1 00000001", "0-1 10000000", "villages 2", "0-1,1", "0-1 1,", "0~1 1",
        )
        for row in wrong:
            self.refused("villages 2\n" + row, 2)
            self.refused("villages 3\n1-2 5\n" + row, 3)
            self.refused("villages 1\n" + row, 2)
            self.refused("villages 4\n1-2 5\n" + row + "\nspoilt\n1-3 1", 3)
            self.refused("villages 12\n" + "0-1 1\n" * 10 + row, 12)

    def test_rows_that_make_no_tree(self):
        self.refused("villages 2", 2)
        self.refused("villages 12", 2)
        self.refused("villages 13", 2)
        self.refused("villages 1000000", 2)
        self.refused("villages 9999999", 2)
        self.refused("villages 1\n0-0 1", 3)
        self.refused("villages 2\n0-1 0", 3)
        self.refused("villages 2\n0-1 1000001", 3)
        self.refused("villages 2\n0-1 9999999", 3)
        self.refused("villages 2\n0-0 1", 3)
        self.refused("villages 2\n0-2 1", 3)
        self.refused("villages 2\n2-0 1", 3)
        self.refused("villages 2\n9999999-0 1", 3)
        self.refused("villages 2\n0-1 1\n0-1 1", 4)
        self.refused("villages 3\n0-1 1", 3)
        self.refused("villages 3\n0-1 1\n1-0 1", 4)
        self.refused("villages 4\n0-1 1\n1-2 1\n2-0 1", 5)
        self.refused(TEXT.replace("5", "4"), 6)
        self.refused(TEXT.replace("5", "6"), 6)
        rows = ["villages 13"] + [f"{village}-{village + 1} 1" for village in range(12)]
        self.refused("\n".join(rows), 14)

    def test_a_row_out_of_form_is_told_ahead_of_no_tree(self):
        self.refused("villages 13\n0-1", 2)
        self.refused("villages 2\n0-0 0\n0-1 1\n\n", 4)
        self.refused("villages 0\n0-1", 1)
        self.refused("villages 1\n9-9 0\nspoilt", 3)

    def test_every_text_one_sign_away(self):
        for text in (TEXT, "villages 1", "villages 2\n1-0 1000000", written(Tree(12, path(12, 10)))):
            for at in range(len(text) + 1):
                near = [text[:at] + text[at + 1:], text[:at]]
                near += [text[:at] + sign + text[at:] for sign in SIGNS]
                near += [text[:at] + sign + text[at + 1:] for sign in SIGNS]
                for other in near:
                    self.assertEqual(outcome(other), slow_read(other), repr(other))

    def test_read_is_just_what_is_written(self):
        for at in range(len(TEXT)):
            for sign in SIGNS:
                text = TEXT[:at] + sign + TEXT[at + 1:]
                if type(outcome(text)) is tuple:
                    self.assertEqual(written(read(text)), text)


class Lists(unittest.TestCase):
    """[1]"""

    def test_asking_changes_no_tree(self):
        tree = sample()
        written(tree)
        self.assertEqual(rows_of(tree), (5, ROADS))

    def test_trees_read_are_apart(self):
        first, second = read(TEXT), read(TEXT)
        first.roads().clear()
        self.assertEqual(rows_of(first), rows_of(second))
        self.assertIsNot(first, second)


if __name__ == "__main__":
    unittest.main()
