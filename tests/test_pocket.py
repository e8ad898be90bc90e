"""Points 53 and 54: all of which a node is certain."""

import random
import unittest

from goodtill.finders import good_ticks, may_tell, why_certain
from goodtill.labels import is_inside
from goodtill.pocket import pocket_of
from goodtill.views import view_of
from tests.build import Rows
from tests.some_houses import some_sight
from tests.test_finders import A, B, give, service
from tests.told import told


def only(rows, *path):
    """The rows of one page, without the path."""
    return tuple(row[1:] for row in rows if row[0] == path)


class Parts(unittest.TestCase):
    def test_own_pages(self):
        rows = Rows()
        rows.start(0)
        self.assertEqual(pocket_of((), rows.events(), 0), (((), ("open", None, None), None, None),))
        rows.put(0, (), "m", ("value", 3))
        rows.put(0, (), "k", ("value", 4))
        rows.put(0, (), "k", None)
        expected = ((("open", None, "k"), None, None), (("label", "k"), None, None), (("open", "k", "m"), None, None),
                    (("label", "m"), ("value", 3), None), (("open", "m", None), None, None))
        self.assertEqual(only(pocket_of((), rows.events(), 0)), expected)

    def test_nothing_and_nobody(self):
        rows = Rows()
        rows.start(1)
        self.assertEqual(pocket_of((), rows.events(), 1), ())
        self.assertEqual(told(pocket_of, (), rows.events(), 0), ("Refused", 0))
        self.assertEqual(told(pocket_of, (), (), 1), ("Refused", 1))

    def test_stretches_below_between_and_above(self):
        row = service(B, give("a", 3), give("b", 4), give("c", 5)).events()
        expected = ((("open", None, "b"), None, (3, 1)), (("label", "b"), ("value", 6), (4, 1)), (("open", "b", None), None, (5, 1)))
        self.assertEqual(only(pocket_of((), row, 1)), expected)
        row = service(A, B, give("ab", 7)).events()
        self.assertEqual(only(pocket_of((), row, 1)), ((("open", "a", "b"), None, (7, 1)),))

    def test_no_cut_at_all(self):
        row = service(give("q", 3), give("a", 8)).events()
        self.assertEqual(only(pocket_of((), row, 1)), ((("open", None, None), None, (8, 1)),))

    def test_gaps_that_reach_over_and_that_do_not(self):
        gap = give("c", 9)
        row = service(A, gap, ("put", (), "m", ("value", 1))).events()
        expected = ((("open", "a", "m"), None, (9, 1)), (("open", "m", None), None, (9, 1)))
        self.assertEqual(only(pocket_of((), row, 1)), expected)
        row = service(gap, A, ("put", (), "m", ("value", 1))).events()
        self.assertEqual([part for part, _, _ in only(pocket_of((), row, 1))], [("open", None, "a"), ("open", "a", "m"), ("open", "m", None)])
        row = service(A, ("put", (), "m", ("value", 1)), gap, ("put", (), "m", None), give("d", 5)).events()
        expected = ((("open", "a", "m"), None, (9, 1)), (("label", "m"), None, (5, 1)), (("open", "m", None), None, (5, 1)))
        self.assertEqual(only(pocket_of((), row, 1)), expected)
        row = service(A, B, gap).events()
        self.assertEqual(only(pocket_of((), row, 1)), ((("open", "b", None), None, (9, 1)),))

    def test_a_stretch_in_which_no_label_lies(self):
        row = service(A, give("b", 9), ("put", (), "aa", ("value", 1))).events()
        expected = ((("open", "a", "aa"), None, (9, 1)), (("open", "aa", None), None, (9, 1)))
        self.assertEqual(only(pocket_of((), row, 1)), expected)

    def test_a_label_is_no_stretch(self):
        row = service(A, give("a", 9)).events()
        self.assertEqual(only(pocket_of((), row, 1)), ((("label", "a"), ("value", 5), (9, 1)),))

    def test_a_label_that_bears_nothing_any_more(self):
        row = service(A, ("put", (), "a", None), give("a", 9)).events()
        expected = ((("open", None, "a"), None, (9, 1)), (("label", "a"), None, (9, 1)), (("open", "a", None), None, (9, 1)))
        self.assertEqual(only(pocket_of((), row, 1)), expected)

    def test_the_greatest_of_several(self):
        row = service(give("q", 3), B, give("a", 8), give("b", 1), give("b", 2)).events()
        expected = ((("open", None, "b"), None, (8, 1)), (("label", "b"), ("value", 6), (2, 1)), (("open", "b", None), None, (3, 1)))
        self.assertEqual(only(pocket_of((), row, 1)), expected)

    def test_sworn_off(self):
        rows = service(give("q", 3), give("q", 5))
        rows.do(1, "swear", (0, 0, 3))
        self.assertEqual(only(pocket_of((), rows.events(), 1)), ((("open", None, None), None, (5, 1)),))
        rows.do(1, "send", 0)
        self.assertEqual(only(pocket_of((), rows.events(), 1)), ((("open", None, None), None, (3, 1)),))


class Beneath(unittest.TestCase):
    def test_pages_beneath(self):
        first = (("x", ("value", 1)), ("z", ("value", 2)))
        one = (0, 0, 2)
        deeds = (("put", (), "p", ("page", 0, first)), ("put", one, "y", ("page", 0, ())), give("p", 9), give("x", 7, term=one),
                 give("y", 8, term=one), give("w", 12, term=one), give("q", 6, term=(0, 0, 3)), give("z", 11))
        row = service(*deeds).events()
        expected = (
            ((), ("label", "p"), ("page", 0, first), (9, 1)),
            ((), ("open", "p", None), None, (11, 1)),
            (("p",), ("open", None, "x"), None, (9, 1)),
            (("p",), ("label", "x"), ("value", 1), (7, 1)),
            (("p",), ("label", "y"), ("page", 0, ()), (8, 1)),
            (("p", "y"), ("open", None, None), None, (6, 1)),
        )
        self.assertEqual(pocket_of((), row, 1), expected)

    def test_only_where_the_way_is_certain(self):
        one = (0, 0, 2)
        row = service(("put", (), "p", ("page", 0, ())), give("x", 7, term=one)).events()
        self.assertEqual(why_certain((), row, 1, one, "x"), ("promise", (0, 0, 3)))
        self.assertEqual(pocket_of((), row, 1), ())

    def test_a_page_put_again(self):
        one, two = (0, 0, 2), (0, 0, 4)
        deeds = (("put", (), "p", ("page", 0, ())), give("x", 7, term=one), ("put", (), "p", ("page", 0, ())), give("p", 9))
        row = service(*deeds).events()
        self.assertEqual(pocket_of((), row, 1), (((), ("label", "p"), ("page", 0, ()), (9, 1)),))
        row = service(*deeds, give("x", 5, term=two)).events()
        self.assertEqual(pocket_of((), row, 1)[1:], ((("p",), ("open", None, None), None, (5, 1)),))

    def test_own_pages_beneath_those_of_others(self):
        row = service(("put", (), "p", ("page", 1, (("v", ("value", 1)),))), give("p", 9)).events()
        self.assertEqual(only(pocket_of((), row, 1), "p"), ((("open", None, "v"), None, (9, 1)), (("label", "v"), ("value", 1), (9, 1)),
                                                            (("open", "v", None), None, (9, 1))))
        self.assertEqual(only(pocket_of((), row, 0), "p"), ())
        self.assertEqual([part[2] for part in only(pocket_of((), row, 0))], [None, None, None])

    def test_the_order_of_the_pages(self):
        rows = Rows()
        rows.start(0)
        for label in ("b", "a", "ab"):
            term = rows.put(0, (), label, ("page", 0, ()))
            rows.put(0, term, "q", ("page", 0, ()))
        paths = [row[0] for row in pocket_of((), rows.events(), 0)]
        self.assertEqual(paths, sorted(paths))
        self.assertEqual(sorted(set(paths)), [(), ("a",), ("a", "q"), ("ab",), ("ab", "q"), ("b",), ("b", "q")])
        self.assertEqual([paths.count(path) for path in ((), ("a",), ("a", "q"))], [7, 3, 1])


class ItHolds(unittest.TestCase):
    def test_the_pocket_holds_what_may_be_told(self):
        tried = 0
        for index in range(120):
            dice = random.Random(5800 + index)
            roster, row = some_sight(dice, dice.randint(10, 45), dice.randint(2, 4), dice.choice((0, 0, 0.03)))
            for node in range(4):
                if not view_of(row, node):
                    continue
                rows = pocket_of(roster, row, node)
                for _ in range(12):
                    name = tuple(dice.choice(("a", "aa", "b", "bb", "bc", "c", "d")) for _ in range(dice.choice((1, 1, 2, 3))))
                    held = self.held(rows, name)
                    found = may_tell(roster, row, node, name, 0)
                    self.assertEqual(held is not None, found[0] == "told", (index, node, name))
                    if held is not None:
                        tried += held[3] is not None
                        self.assertEqual(held[3], good_ticks(roster, row, node, name, 0))
        self.assertGreater(tried, 60)

    def held(self, rows, name):
        """The row of the last place of a walk that follows no other name; None if a place has none."""
        for many in range(1, len(name) + 1):
            label, found = name[many - 1], None
            for row in rows:
                if row[0] == name[:many - 1]:
                    if row[1] == ("label", label) or (row[1][0] == "open" and is_inside(row[1][1], label, row[1][2])):
                        found = row
            if found is None or found[2] is None or found[2][0] != "page":
                return found
        return found


if __name__ == "__main__":
    unittest.main()
