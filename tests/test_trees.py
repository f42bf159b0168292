"""[16], [3]: rows put and taken by new pages, and looks that read few pages."""

import copy
import itertools
import unittest

from enoughlooks.pages import fewest_pages, height, is_page_tree, most_height, rows_of
from enoughlooks.tables import nearest_by_all
from enoughlooks.trees import has, nearest, new_pages, pages_read, put, rows_behind, take, tree_of
from plain_trees import plain_tree
from values import ascending, drawing, drawn_rows


def turned(tree):
    """The same tree, its pages in another order."""
    return tree[:2] + ({number: tree[2][number] for number in reversed(list(tree[2]))},)


def grown(draw, many, count, top):
    """A tree with a past, and its rows."""
    tree, rows = tree_of(many, ()), set()
    for _ in range(count):
        row = tuple(draw.randrange(-top, top) for _ in range(many))
        if draw.random() < 0.65:
            tree = put(tree, row)
            rows.add(row)
        else:
            tree = take(tree, row)
            rows.discard(row)
    return tree, tuple(sorted(rows))


class Noted(dict):
    """Pages that note which of them are read."""

    def __init__(self, pages):
        super().__init__(pages)
        self.read = []

    def __getitem__(self, number):
        self.read.append(number)
        return super().__getitem__(number)


class TestTreeOf(unittest.TestCase):
    def test_as_few_pages_as_can_be(self):
        for count in [*range(0, 90), 200, 257]:
            rows = tuple((number // 7, number % 7) for number in range(count))
            tree = tree_of(2, rows)
            self.assertTrue(is_page_tree(tree))
            self.assertEqual(plain_tree(tree)[1], rows)
            self.assertEqual(len(tree[2]), fewest_pages(count))
            self.assertLessEqual(height(tree), most_height(count))
            self.assertTrue(ascending(tree[2]))

    def test_new_each_time(self):
        one = tree_of(1, ((1,),))
        one[2].clear()
        self.assertEqual(rows_of(tree_of(1, ((1,),))), ((1,),))

    def test_has(self):
        tree, rows = grown(drawing(1), 2, 150, 8)
        for row in itertools.product(range(-9, 10), repeat=2):
            self.assertIs(has(tree, row), row in rows)
        self.assertIs(has(tree_of(1, ()), (0,)), False)


class TestPutTake(unittest.TestCase):
    def check_step(self, tree, word, row):
        """One put or take, with all that the document says of it; returns the tree behind it."""
        elder = copy.deepcopy(tree)
        other = put(tree, row) if word == "put" else take(tree, row)
        rows = set(rows_of(tree)) | {row} if word == "put" else set(rows_of(tree)) - {row}
        self.assertEqual(tree, elder)
        self.assertEqual(list(tree[2]), list(elder[2]))
        self.assertTrue(is_page_tree(other))
        self.assertEqual(plain_tree(other)[1], tuple(sorted(rows)))
        self.assertEqual(other[0], tree[0])
        new = new_pages(tree, other)
        self.assertTrue(all(number > max(tree[2]) for number in new))
        self.assertEqual(new, tuple(n for n in sorted(other[2]) if tree[2].get(n) != other[2][n]))
        self.assertLessEqual(len(new), 2 * height(tree) + 1)
        self.assertTrue(ascending(other[2]))
        if rows == set(rows_of(tree)):
            self.assertEqual(other, tree)
        self.assertIsNot(other[2], tree[2])
        again = put(turned(tree), row) if word == "put" else take(turned(tree), row)
        self.assertEqual(again, other)
        self.assertTrue(ascending(again[2]))
        return other

    def test_behind_one_another(self):
        for seed in range(6):
            draw = drawing(seed)
            tree, stood = tree_of(1, ()), {0: ("leaf", ())}
            for step in range(260):
                word = "put" if draw.random() < (0.7 if step < 120 else 0.3) else "take"
                tree = self.check_step(tree, word, (draw.randrange(70),))
                for number in tree[2]:
                    self.assertEqual(stood.setdefault(number, tree[2][number]), tree[2][number])

    def test_up_and_down(self):
        for order in [1, -1, 37]:
            tree = tree_of(1, ())
            numbers = [order * number % 101 for number in range(101)]
            for number in numbers:
                tree = self.check_step(tree, "put", (number,))
            self.assertGreaterEqual(height(tree), 4)
            for number in numbers:
                tree = self.check_step(tree, "take", (number,))
            self.assertEqual((rows_of(tree), height(tree), len(tree[2])), ((), 1, 1))

    def test_each_row_of_full_and_of_thin_trees(self):
        full = tree_of(1, tuple((2 * number,) for number in range(64)))
        thin = tree_of(1, tuple((2 * number,) for number in range(17)))
        for tree in [full, thin]:
            for row in rows_of(tree):
                self.check_step(tree, "take", row)
            for number in range(-1, 130, 2):
                self.check_step(tree, "put", (number,))

    def test_nothing_changes(self):
        tree = tree_of(1, ((1,), (3,), (5,), (7,), (9,)))
        for same in [put(tree, (5,)), take(tree, (4,)), take(tree, (-4,)), put(turned(tree), (1,))]:
            self.assertEqual(same, tree)
            self.assertEqual(new_pages(tree, same), ())
            self.assertTrue(ascending(same[2]))
            same[2].clear()
        self.assertTrue(is_page_tree(tree))
        empty = tree_of(1, ())
        self.assertEqual(take(empty, (0,)), empty)

    def test_new_pages(self):
        one, other = tree_of(1, ((1,),)), tree_of(1, ((2,),))
        self.assertEqual(new_pages(one, other), (0,))
        self.assertEqual(new_pages(one, one), ())
        many = tree_of(1, tuple((number,) for number in range(9)))
        self.assertEqual(new_pages(one, many), (0, 1, 2, 3))
        self.assertEqual(new_pages(one, turned(many)), (0, 1, 2, 3))
        self.assertEqual(new_pages(many, turned(many)), ())


class TestNearest(unittest.TestCase):
    def check_look(self, tree, rows, prefix, x):
        told = nearest_by_all(rows, prefix, x)
        self.assertEqual(nearest(tree, prefix, x), told)
        self.assertIs(type(nearest(tree, prefix, x)[0]), bool)
        some = pages_read(tree, prefix, x)
        self.assertIs(type(some), tuple)
        self.assertTrue(ascending(some))
        self.assertLessEqual(len(some), 2 * height(tree))
        alone = {number: tree[2][number] for number in some}
        self.assertEqual(nearest((tree[0], tree[1], alone), prefix, x), told)

    def test_drawn(self):
        for seed in range(12):
            draw = drawing(seed)
            many = draw.choice([1, 2, 3])
            tree, rows = grown(draw, many, draw.choice([0, 1, 3, 20, 90]), 5)
            elder = copy.deepcopy(tree)
            for size in range(many):
                for _ in range(6):
                    prefix = tuple(draw.randrange(-6, 7) for _ in range(size))
                    for x in [None, *range(-7, 8)]:
                        self.check_look(tree, rows, prefix, x)
            self.assertEqual(tree, elder)

    def test_one_value_over_many_pages(self):
        rows = tuple((1, number) for number in range(40)) + tuple((2, number) for number in range(40)) + ((4, 0),)
        tree = tree_of(2, rows)
        for x in [None, 0, 1, 2, 3, 4, 5]:
            self.check_look(tree, rows, (), x)
        for prefix in [(0,), (1,), (2,), (3,), (4,), (5,)]:
            for x in [None, -1, 0, 20, 39, 40]:
                self.check_look(tree, rows, prefix, x)

    def test_rows_behind(self):
        for seed in range(8):
            draw = drawing(seed)
            rows = drawn_rows(draw, 3, draw.choice([0, 2, 60, 150]), 6)
            tree = tree_of(3, rows)
            prefixes = [(), (-9,), (9,)] + [tuple(draw.randrange(-4, 7) for _ in range(n)) for n in (1, 2, 3) for _ in range(30)]
            for prefix in prefixes + list(rows[:9]):
                self.assertEqual(rows_behind(tree, prefix), tuple(row for row in rows if row[:len(prefix)] == prefix))

    def test_rows_behind_reads_no_leaf_in_vain(self):
        rows = tuple((number // 9, number % 9) for number in range(180))
        many, root, pages = tree_of(2, rows)
        for prefix in [(-1,), (0,), (7,), (7, 3), (19,), (20,)]:
            noted = Noted(pages)
            found = rows_behind((many, root, noted), prefix)
            leaves = [number for number in noted.read if pages[number][0] == "leaf"]
            self.assertEqual(found, tuple(row for row in rows if row[:len(prefix)] == prefix))
            self.assertLessEqual(len(leaves), len(found) // 2 + 2)


if __name__ == "__main__":
    unittest.main()
