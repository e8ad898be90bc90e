"""Points 37 to 39: keepers of pages, their contents, what stands on them."""

import unittest

from goodtill.pages import content_of, does_keep, keeper_of, page_gap, page_rows
from goodtill.runs import World
from goodtill.views import check_view, view_of
from tests.build import Rows
from tests.told import told

NOTHING = (("nothing",), ())


def page(house, *first):
    return ("page", house, first)


class Keepers(unittest.TestCase):
    def test_the_root(self):
        self.assertEqual(keeper_of((), ()), ((), 0))
        rows = Rows()
        rows.start(3)
        self.assertEqual(keeper_of(rows.events(), ()), ((), 0))
        self.assertIs(does_keep(rows.events(), 3, ()), False)

    def test_a_node_without_an_event_keeps_nothing(self):
        rows = Rows()
        self.assertIs(does_keep((), 0, ()), False)
        rows.start(1)
        self.assertIs(does_keep(rows.events(), 0, ()), False)
        rows.start(0)
        self.assertIs(does_keep(rows.events(), 0, ()), True)

    def test_handed_there_and_back(self):
        rows = Rows()
        rows.start(0)
        rows.start(1)
        term = rows.put(0, (), "p", page(1))
        self.assertEqual(keeper_of(rows.events(), term), (term, 1))
        rows.letter(0, 1)
        there = rows.do(1, "hand", term, 0)
        self.assertEqual(keeper_of(rows.events(), term), (there, 0))
        self.assertIs(does_keep(rows.events(), 1, term), False)
        self.assertIs(does_keep(rows.events(), 0, term), False)
        rows.letter(1, 0)
        self.assertIs(does_keep(rows.events(), 0, term), True)
        back = rows.do(0, "hand", term, 1)
        rows.letter(0, 1)
        self.assertEqual(keeper_of(rows.events(), term), (back, 1))
        self.assertEqual([does_keep(rows.events(), node, term) for node in (0, 1)], [False, True])
        self.assertEqual(keeper_of(rows.events(), ()), ((), 0))

    def test_the_view_of_the_node_alone(self):
        rows = Rows()
        rows.start(0)
        rows.start(1)
        term = rows.put(0, (), "p", page(1))
        self.assertIs(does_keep(rows.events(), 1, term), False)
        rows.letter(0, 1)
        self.assertIs(does_keep(rows.events(), 1, term), True)
        rows.start(1, (1, 0, 0))
        self.assertIs(does_keep(rows.events(), 1, term), False)

    def test_the_order_of_the_row_does_not_matter_between_nodes(self):
        rows = Rows()
        rows.start(0)
        hand = rows.do(0, "hand", (), 2)
        rows.start(1)
        rows.start(2)
        self.assertEqual(keeper_of(rows.events(), ()), (hand, 2))
        turned = rows.events()[2:] + rows.events()[:2]
        self.assertEqual(keeper_of(check_view(turned), ()), (hand, 2))

    def test_terms_that_are_no_page(self):
        rows = Rows()
        rows.start(0)
        value = rows.put(0, (), "v", ("value", 1))
        name = rows.put(0, (), "n", ("name", ("v",)))
        term = rows.put(0, (), "p", page(1))
        gone = rows.put(0, (), "p", None)
        row = rows.events()
        for wrong in (value, name, gone, (0, 0, 0), (0, 0, 9), (31, 7, 7)):
            self.assertEqual(told(keeper_of, row, wrong), ("Refused", wrong))
            self.assertEqual(told(content_of, row, wrong, "a"), ("Refused", wrong))
            self.assertEqual(told(page_rows, row, wrong), ("Refused", wrong))
            self.assertEqual(told(page_gap, row, wrong, "v"), ("Refused", wrong))
            self.assertIs(does_keep(row, 0, wrong), False)
        self.assertEqual(keeper_of(row, term), (term, 1))
        self.assertEqual(told(keeper_of, row[:3], term), ("Refused", term))


class Contents(unittest.TestCase):
    def test_first_entries_and_puts_over_them(self):
        rows = Rows()
        rows.start(0)
        term = rows.put(0, (), "p", page(0, ("a", ("value", 1)), ("b", ("name", ("x",)))))
        self.assertEqual(content_of(rows.events(), term, "a"), (term, ("value", 1)))
        self.assertEqual(content_of(rows.events(), term, "b"), (term, ("name", ("x",))))
        self.assertEqual(content_of(rows.events(), term, "c"), (term, None))
        over = rows.put(0, term, "a", ("value", 2))
        self.assertEqual(content_of(rows.events(), term, "a"), (over, ("value", 2)))
        out = rows.put(0, term, "a", None)
        self.assertEqual(content_of(rows.events(), term, "a"), (out, None))
        again = rows.put(0, term, "a", ("value", 1))
        self.assertEqual(content_of(rows.events(), term, "a"), (again, ("value", 1)))
        self.assertEqual(content_of(rows.events(), (), "a"), ((), None))

    def test_a_page_put_again_is_another_page(self):
        rows = Rows()
        rows.start(0)
        one = rows.put(0, (), "p", page(0, ("a", ("value", 1))))
        rows.put(0, one, "b", ("value", 2))
        two = rows.put(0, (), "p", page(0, ("a", ("value", 1))))
        row = rows.events()
        self.assertEqual(content_of(row, (), "p"), (two, page(0, ("a", ("value", 1)))))
        self.assertEqual(content_of(row, two, "b"), (two, None))
        self.assertEqual(page_rows(row, two), (("a", ("value", 1)),))
        self.assertEqual(page_rows(row, one), (("a", ("value", 1)), ("b", ("value", 2))))

    def test_puts_by_several_keepers(self):
        rows = Rows()
        rows.start(0)
        rows.start(1)
        rows.put(0, (), "a", ("value", 1))
        rows.do(0, "hand", (), 1)
        rows.letter(0, 1)
        put = rows.put(1, (), "a", ("value", 2))
        self.assertEqual(content_of(rows.events(), (), "a"), (put, ("value", 2)))
        self.assertEqual(content_of(view_of(rows.events(), 0), (), "a"), ((0, 0, 1), ("value", 1)))
        moved = rows.events()[1:2] + rows.events()[:1] + rows.events()[2:]
        self.assertEqual(content_of(moved, (), "a"), (put, ("value", 2)))

    def test_five_deep(self):
        rows = Rows()
        rows.start(0)
        term, terms = (), []
        for deep in range(5):
            term = rows.put(0, term, "p", page(0, ("v", ("value", deep))))
            terms.append(term)
        self.assertEqual(told(check_view, rows.events() + (rows.event(0, "put", term, "p", page(0)),)), ("BadView", 6))
        row = rows.events()
        for deep, term in enumerate(terms):
            self.assertEqual(content_of(row, term, "v"), (term, ("value", deep)))
            self.assertEqual([label for label, _ in page_rows(row, term)], ["p", "v"] if deep < 4 else ["v"])


class Standing(unittest.TestCase):
    def some_page(self):
        rows = Rows()
        rows.start(0)
        term = rows.put(0, (), "p", page(0, ("b", ("value", 1)), ("d", ("value", 2)), ("f", ("value", 3))))
        rows.put(0, term, "d", None)
        rows.put(0, term, "bb", ("name", ("b",)))
        rows.put(0, term, "x", ("value", 9))
        rows.put(0, term, "x", None)
        rows.put(0, (), "e", ("value", 7))
        return term, rows.events()

    def test_rows(self):
        term, row = self.some_page()
        self.assertEqual(page_rows(row, term), (("b", ("value", 1)), ("bb", ("name", ("b",))), ("f", ("value", 3))))
        self.assertEqual([label for label, _ in page_rows(row, ())], ["e", "p"])
        self.assertEqual(page_rows((), ()), ())
        self.assertEqual(page_rows(row[:1], ()), ())

    def test_gaps(self):
        term, row = self.some_page()
        gaps = {"a": (None, "b"), "ba": ("b", "bb"), "bba": ("bb", "f"), "d": ("bb", "f"), "e": ("bb", "f"), "ezzzzzzz": ("bb", "f"),
                "g": ("f", None), "x": ("f", None)}
        for label, gap in gaps.items():
            self.assertEqual(page_gap(row, term, label), gap)
        for label in ("b", "bb", "f"):
            self.assertEqual(told(page_gap, row, term, label), ("Refused", label))
        self.assertEqual(page_gap((), (), "q"), (None, None))
        self.assertEqual(page_gap(row[:1], (), "p"), (None, None))
        self.assertEqual(page_gap(row, (), "ee"), ("e", "p"))

    def test_thirty_entries(self):
        rows = Rows()
        rows.start(0)
        labels = [one + two for one in "abcde" for two in "fghijk"]
        for label in reversed(labels):
            rows.put(0, (), label, ("value", 1))
        row = rows.events()
        self.assertEqual([label for label, _ in page_rows(row, ())], labels)
        self.assertEqual(page_gap(row, (), "bz"), ("bk", "cf"))


class Parameters(unittest.TestCase):
    def test_by_name(self):
        row = (((0, 0, 0), (0, 1), ("start", None)),)
        self.assertEqual(keeper_of(events=row, term=()), ((), 0))
        self.assertIs(does_keep(events=row, node=0, term=()), True)
        self.assertEqual(content_of(events=row, term=(), label="a"), ((), None))
        self.assertEqual(page_rows(events=row, term=()), ())
        self.assertEqual(page_gap(events=row, term=(), label="a"), (None, None))


class OneKeeper(unittest.TestCase):
    def test_a_page_under_way_has_no_keeper(self):
        world, rows = World(()), Rows()
        rows.start(0)
        rows.start(1)
        rows.do(0, "hand", (), 1)
        for event, instant in rows.run():
            world.add(event, instant)
        row = rows.events()
        self.assertEqual([does_keep(row, node, ()) for node in (0, 1)], [False, False])
        self.assertEqual(world.walk(("a",), 0), NOTHING)


if __name__ == "__main__":
    unittest.main()
