"""[15], [3]: pages, page trees, their heights and how few pages there can be."""

import copy
import unittest

from enoughlooks.pages import fewest_pages, height, is_page, is_page_tree, most_height, rows_of
from enoughlooks.trees import put, tree_of
from plain_trees import plain_tree, shapes_of
from values import any_values, drawing

FIVE = (1, 2, {0: ("leaf", ((1,), (3,), (5,))), 1: ("leaf", ((7,), (9,))), 2: ("node", (((1,), 0), ((7,), 1)))})


def high_tree():
    """A tree of three levels in which there is room for other things to be amiss."""
    return tree_of(1, tuple((3 * number,) for number in range(20)))


class TestPages(unittest.TestCase):
    def test_is_page(self):
        rows = ((1,), (2,), (3,), (4,))
        child = ((1,), 0)
        for thing in [("leaf", ()), ("leaf", rows), ("leaf", ((1,), (1, 2), (2,))), ("node", (child, child)),
                      ("node", (((5, 6), 10 ** 30), ((1,), 3), child, child))]:
            self.assertIs(is_page(thing), True, thing)
        for thing in [("leaf", rows + ((5,),)), ("leaf", rows[::-1]), ("leaf", ((1,), (1,))), ("leaf", [(1,)]), ("leaf", ((),)),
                      ("leaf", ((True,),)), ("leaf", ([1],)), ["leaf", ()], ("leaf",), ("leaf", (), ()), ("Leaf", ()),
                      ("node", (child,)), ("node", (child,) * 5), ("node", [child, child]), ("node", (child, ((1,), -1))),
                      ("node", (child, ((1,), True))), ("node", (child, ((), 1))), ("node", (child, ((1,), 1, 1))),
                      ("node", (child, [(1,), 1])), ("node", (child, (1, 1))), ("node", rows), ("leaf", (child, child)),
                      (None, ()), ([], ()), ({}, (child, child))]:
            self.assertIs(is_page(thing), False, thing)

    def test_any_value(self):
        for thing in any_values():
            self.assertIs(is_page(thing), False, thing)
            self.assertIs(is_page_tree(thing), False, thing)
            for tree in [(1, thing, FIVE[2]), (1, 2, thing), (thing, 2, FIVE[2]), (1, 2, {**FIVE[2], 1: thing})]:
                self.assertIs(is_page_tree(tree), False, thing)

    def test_trees(self):
        for tree in [FIVE, high_tree(), (1, 0, {0: ("leaf", ())}), (1, 7, {7: ("leaf", ((1,),))}), (9, 0, {0: ("leaf", ())})]:
            self.assertIs(is_page_tree(tree), True)

    def test_trees_with_something_otherwise(self):
        pages = FIVE[2]
        node = pages[2][1]
        bent = [
            {**pages, 3: ("leaf", ())}, {**pages, 3: ("leaf", ((11,), (12,)))}, {0: pages[0], True: pages[1], 2: pages[2]},
            {number: pages[number] for number in (0, 2)}, {number: pages[number] for number in (0, 1)},
            {**pages, 2: ("node", node + (((7,), 1),))}, {**pages, 2: ("node", node + (((9,), 2),))},
            {**pages, 2: ("node", (((1,), 0), ((7,), 0)))}, {**pages, 2: ("node", (((1,), 0), ((7,), 2)))},
            {**pages, 2: ("node", node[::-1])}, {**pages, 2: ("node", (((0,), 0), node[1]))},
            {**pages, 2: ("node", (node[0], ((6,), 1)))}, {**pages, 2: ("node", (node[0], ((9,), 1)))},
            {**pages, 2: ("node", (node[0], ((7, 7), 1)))}, {**pages, 1: ("leaf", ((7,),))}, {**pages, 1: ("leaf", ())},
            {**pages, 1: ("leaf", ((7,), (9, 9)))}, {**pages, 1: ("leaf", ((7,), (9,), (8,)))},
            {**pages, 0: ("leaf", ((1,), (3,), (7,)))}, {**pages, 0: ("leaf", ((1,), (3,), (8,)))},
            {0: pages[0], 1: pages[1], "2": pages[2]}, {**pages, -1: pages[1]}, {**pages, 1: pages[2]},
        ]
        for other in bent:
            self.assertIs(is_page_tree((1, 2, other)), False, other)
        for many in [0, 2, True, None, -1]:
            self.assertIs(is_page_tree((many, 2, pages)), False)
            self.assertIs(is_page_tree((many, 0, {0: ("leaf", ())})), many == 2)
        for root in [0, 1, 3, -1, True, None, "2", [], (2,)]:
            self.assertIs(is_page_tree((1, root, pages)), False)
        for thing in [list(FIVE), FIVE[:2], FIVE + (0,), (1, 2, list(pages.items()))]:
            self.assertIs(is_page_tree(thing), False)

    def test_a_leaf_deeper_than_the_others(self):
        pages = dict(FIVE[2])
        pages[3] = ("leaf", ((11,), (13,)))
        pages[4] = ("node", (((1,), 2), ((11,), 3)))
        self.assertIs(is_page_tree((1, 4, pages)), False)
        pages[5] = ("leaf", ((15,), (17,)))
        pages[6] = ("node", (((11,), 3), ((15,), 5)))
        pages[4] = ("node", (((1,), 2), ((11,), 6)))
        self.assertIs(is_page_tree((1, 4, pages)), True)

    def test_a_ring_and_a_long_chain(self):
        ring = {0: ("node", (((1,), 1), ((2,), 2))), 1: ("node", (((1,), 0), ((2,), 2))), 2: ("leaf", ((2,), (3,)))}
        self.assertIs(is_page_tree((1, 0, ring)), False)
        chain = {2 * k: ("node", (((1,), 2 * k + 1), ((2,), 2 * k + 2))) for k in range(1500)}
        chain.update({2 * k + 1: ("leaf", ((1,), (2,))) for k in range(1500)})
        chain[3000] = ("leaf", ((1,), (2,)))
        self.assertIs(is_page_tree((1, 0, chain)), False)

    def test_drawn_bends_are_told_as_by_the_plain_way(self):
        draw = drawing(15)
        trues = 0
        for _ in range(1500):
            many, root, pages = high_tree()
            numbers = sorted(pages)
            for _ in range(draw.choice([1, 1, 2])):
                one, other = draw.choice(numbers), draw.choice(numbers)
                kind, entries = pages[one]
                place = draw.randrange(len(entries))
                if draw.random() < 0.3:
                    pages[one], pages[other] = pages[other], pages[one]
                elif draw.random() < 0.3:
                    pages[one] = (kind, entries[:place] + entries[place + 1:])
                elif kind == "leaf":
                    moved = (entries[place][0] + draw.choice([-1, 0, 1, 2]),)
                    pages[one] = (kind, entries[:place] + (moved,) + entries[place + 1:])
                else:
                    row, child = entries[place]
                    child = draw.choice([child, child, other])
                    pages[one] = (kind, entries[:place] + ((row, child),) + entries[place + 1:])
            plain = all(is_page(page) for page in pages.values()) and plain_tree((many, root, pages)) is not None
            trues += plain
            self.assertIs(is_page_tree((many, root, pages)), plain, pages)
        self.assertGreater(trues, 100)

    def test_rows_and_height(self):
        self.assertEqual(rows_of(FIVE), ((1,), (3,), (5,), (7,), (9,)))
        self.assertEqual(height(FIVE), 2)
        self.assertEqual((rows_of(high_tree()), height(high_tree())), (tuple((3 * n,) for n in range(20)), 3))
        self.assertEqual((rows_of((3, 5, {5: ("leaf", ())})), height((3, 5, {5: ("leaf", ())}))), ((), 1))
        tree = (1, 0, {0: ("leaf", ())})
        for number in range(150):
            tree = put(tree, (number * 37 % 151,))
            self.assertEqual((height(tree), rows_of(tree)), plain_tree(tree))

    def test_arguments_stay(self):
        tree = high_tree()
        elder = copy.deepcopy(tree)
        rows_of(tree), height(tree), is_page_tree(tree)
        self.assertEqual(tree, elder)
        self.assertEqual(list(tree[2]), list(elder[2]))

    def test_most_height_and_fewest_pages_of_all_trees(self):
        found = shapes_of(40, 41)
        for many in range(41):
            self.assertEqual(most_height(many), max(high for high, rows, pages in found if rows == many), many)
            self.assertEqual(fewest_pages(many), min(pages for high, rows, pages in found if rows == many), many)

    def test_most_height_as_told(self):
        self.assertEqual([most_height(many) for many in (0, 1, 2, 3, 4, 7, 8, 200, 255, 256)], [1, 1, 1, 1, 2, 2, 3, 7, 7, 8])
        self.assertEqual(most_height(2 ** 100), 100)
        self.assertEqual(most_height(2 ** 100 - 1), 99)
        self.assertEqual([fewest_pages(many) for many in (0, 1, 4, 5, 16, 17, 64, 65)], [1, 1, 1, 3, 5, 8, 21, 25])


if __name__ == "__main__":
    unittest.main()
