"""Points 37 to 59 and 67 and 69 at random rows, compared with the slow second reading."""

import random
import unittest

from goodtill import custody, finders, houses, pages, pocket, promises, recall, tree
from goodtill.errors import Refused
from goodtill.views import view_of
from tests.slow_rights import Eye, Row, is_page
from tests.some_houses import some_sight
from tests.some_rows import in_some_order
from tests.told import told

ASKED = ("a", "aa", "b", "bb", "c", "zzzzzzzz")
NODES = range(6)


class Rights(unittest.TestCase):
    def rows(self, many, seed, size=32):
        for index in range(many):
            dice = random.Random(seed + index)
            roster, row = some_sight(dice, dice.randint(1, size), dice.randint(2, 5), dice.choice((0, 0, 0.02, 0.06)))
            ids = [event[0] for event in row] + [(9, 0, 0)]
            terms = [()] + [event[0] for event in row if is_page(event)] + [dice.choice(ids)]
            gives = [event[0] for event in row if event[2][0] == "give"] + [dice.choice(ids)]
            yield dice, roster, row, terms, gives

    def same(self, fast, slow, *parts):
        self.assertEqual(fast, slow, parts)

    def test_pages_and_promises(self):
        for dice, _, row, terms, gives in self.rows(60, 3700):
            slow = Row(row)
            for term in terms:
                self.same(told(pages.keeper_of, row, term), told(slow.keeper_of, term))
                self.same(told(pages.page_rows, row, term), told(slow.page_rows, term))
                self.same(told(tree.is_broken, row, term), told(slow.is_broken, term))
                self.same(told(custody.keeper_rows, row, term), told(slow.keeper_rows, term))
                for label in ASKED:
                    self.same(told(pages.content_of, row, term, label), told(slow.content_of, term, label))
                    self.same(told(pages.page_gap, row, term, label), told(slow.page_gap, term, label))
                    self.same(told(tree.way_to, row, term, label), told(slow.way_to, term, label))
                    self.same(told(promises.gives_on, row, term, label), told(slow.gives_on, term, label))
                for node in NODES:
                    self.same(told(pages.does_keep, row, node, term), told(slow.does_keep, node, term))
                    self.same(told(custody.owed_gives, row, node, term), told(slow.owed_gives, node, term))
            for give in gives:
                self.same(told(promises.span_of, row, give), told(slow.span_of, give))
                self.same(told(promises.holders_of, row, give), told(slow.holders_of, give))
                for node in NODES:
                    self.same(told(promises.has_sworn, row, give, node), told(slow.has_sworn, give, node))
            for _ in range(8):
                name = tuple(dice.choice(("a", "b", "c", "bb")) for _ in range(dice.randint(1, 6)))
                most = dice.randint(0, 8)
                self.same(told(tree.walk_view, row, name, most), told(slow.walk, name, most))

    def eyes(self, many, seed):
        for dice, roster, row, terms, gives in self.rows(many, seed):
            for node in NODES:
                try:
                    eye = Eye(roster, row, node)
                except Refused:
                    self.nobody(roster, row, node)
                else:
                    yield dice, roster, row, terms, gives, node, eye

    def nobody(self, roster, row, node):
        for function in (finders.why_certain, houses.may_put, houses.put_wait, recall.left_to_swear, recall.fewest_swears):
            self.same(told(function, roster, row, node, (9, 9, 9), "a"), ("Refused", node))
        for function in (promises.does_stand, promises.is_past, promises.ticks_left, houses.why_alive):
            self.same(told(function, roster, row, node, (9, 9, 9)), ("Refused", node))
        for function in (houses.shut_places, houses.own_end):
            self.same(told(function, row, node, (9, 9, 9), "a"), ("Refused", node))
        self.same(told(tree.is_fast, row, node, (9, 9, 9)), ("Refused", node))
        self.same(told(pocket.pocket_of, roster, row, node), ("Refused", node))

    def test_what_houses_may(self):
        found = {}
        for _, roster, row, terms, gives, node, eye in self.eyes(60, 3800):
            self.same(told(houses.entry_points, row, node), told(eye.entry_points))
            for term in terms:
                for label in ASKED:
                    place = (term, label)
                    self.same(told(houses.shut_places, row, node, *place), told(eye.shut_places, *place))
                    self.same(told(houses.own_end, row, node, *place), told(eye.own_end, *place))
                    may = told(houses.may_put, roster, row, node, *place)
                    self.same(may, told(eye.may_put, *place), row, node, place)
                    self.same(told(houses.put_wait, roster, row, node, *place), told(eye.put_wait, *place), row, node, place)
                    self.same(told(recall.left_to_swear, roster, row, node, *place), told(eye.left_to_swear, *place))
                    self.same(told(recall.fewest_swears, roster, row, node, *place), told(eye.fewest_swears, *place))
                    kind = (may[0], may[1][0] if may[0] == "gives" else None)
                    found[kind] = found.get(kind, 0) + 1
            for give in gives:
                self.same(told(houses.why_alive, roster, row, node, give), told(eye.why_alive, give), row, node, give)
        self.assertGreater(min(found.values()), 50)

    def test_neither_the_order_nor_what_the_node_has_not_seen_counts(self):
        for dice, roster, row, terms, gives in self.rows(40, 4000):
            turned = in_some_order(dice, row)
            for term in terms:
                for label in ASKED[:4]:
                    for function in (pages.content_of, promises.gives_on, tree.way_to):
                        self.same(told(function, turned, term, label), told(function, row, term, label))
                self.same(told(custody.keeper_rows, turned, term), told(custody.keeper_rows, row, term))
            for node in NODES[:4]:
                view = view_of(row, node)
                for other in (turned, view, view_of(turned, node)):
                    for term in terms:
                        for label in ASKED[:4]:
                            for function in (finders.why_certain, houses.may_put, houses.put_wait, recall.left_to_swear):
                                self.same(told(function, roster, other, node, term, label), told(function, roster, row, node, term, label))
                            self.same(told(houses.own_end, other, node, term, label), told(houses.own_end, row, node, term, label))
                        self.same(told(custody.owed_gives, other, node, term), told(custody.owed_gives, row, node, term))
                    for give in gives:
                        for function in (promises.ticks_left, promises.is_past, houses.why_alive):
                            self.same(told(function, roster, other, node, give), told(function, roster, row, node, give))
                    self.same(told(pocket.pocket_of, roster, other, node), told(pocket.pocket_of, roster, row, node))
                    self.same(told(finders.may_tell, roster, other, node, ("a", "b"), 2), told(finders.may_tell, roster, row, node, ("a", "b"), 2))
                    self.same(told(houses.entry_points, other, node), told(houses.entry_points, row, node))

    def test_what_nodes_may_tell(self):
        found = {}
        for dice, roster, row, terms, gives, node, eye in self.eyes(60, 3900):
            for term in terms:
                self.same(told(tree.is_fast, row, node, term), told(lambda: (eye.view.need_page(term), eye.is_fast(term))[1]))
                for label in ASKED:
                    why = told(finders.why_certain, roster, row, node, term, label)
                    self.same(why, told(eye.why_certain, term, label), row, node, term, label)
                    if why[0] == "gives":
                        found[why[1] and why[1][0]] = found.get(why[1] and why[1][0], 0) + 1
            for give in gives:
                for function, slow in ((promises.does_stand, eye.does_stand), (promises.is_past, eye.is_past),
                                       (promises.ticks_left, eye.ticks_left)):
                    self.same(told(function, roster, row, node, give), told(slow, give), row, node, give)
            for _ in range(8):
                name = tuple(dice.choice(("a", "b", "c", "bb")) for _ in range(dice.choice((1, 1, 2, 2, 3))))
                most = dice.randint(0, 3)
                self.same(told(finders.may_tell, roster, row, node, name, most), told(eye.may_tell, name, most))
                self.same(told(finders.good_ticks, roster, row, node, name, most), told(eye.good_ticks, name, most))
            self.same(told(pocket.pocket_of, roster, row, node), told(eye.pocket_of), row, node)
        self.assertGreater(min(found.values()), 50)


if __name__ == "__main__":
    unittest.main()
