"""Points 21 to 24: pasts, lines, views, lives, what others can have seen."""

import random
import unittest

from goodtill.views import (
    check_view, common_view, is_behind, life_gaps, line_of, newest_of, past_of, view_of,
)
from tests import slow_views
from tests.build import Rows
from tests.slow_runs import full_past
from tests.some_rows import some_row
from tests.told import told


def shuffled(dice, row):
    """The row in another order in which each event stands behind its steps back."""
    left, made, ids = list(row), [], set()
    while left:
        free = [event for event in left if all(step in ids for step in slow_views.back(event))]
        event = dice.choice(free)
        left.remove(event)
        made.append(event)
        ids.add(event[0])
    return tuple(made)


def random_views(seed, many=40, size=30):
    dice = random.Random(seed)
    for _ in range(many):
        row = some_row(dice, dice.randint(1, size), dice.randint(1, 4))
        yield dice, row


class Pasts(unittest.TestCase):
    def test_pasts_of_random_views(self):
        for dice, row in random_views(30):
            for event in row:
                ids = full_past(row, event)
                past = tuple(other for other in row if other[0] in ids)
                self.assertEqual(past_of(row, event[0]), past)
                for other in dice.sample(row, min(5, len(row))):
                    self.assertIs(is_behind(row, event[0], other[0]), other[0] in ids)
                self.assertIs(is_behind(row, event[0], event[0]), True)

    def test_lines_and_views_of_nodes(self):
        for dice, row in random_views(31):
            for order in (row, shuffled(dice, row)):
                for node in range(6):
                    line = tuple(sorted((event for event in order if event[0][0] == node), key=lambda one: one[0]))
                    self.assertEqual(line_of(order, node), line)
                    self.assertEqual(newest_of(order, node), line[-1][0] if line else None)
                    self.assertEqual(view_of(order, node), past_of(order, line[-1][0]) if line else ())

    def test_nodes_without_an_event(self):
        row = (((3, 0, 0), (0, 1), ("start", None)),)
        self.assertEqual((line_of(row, 0), newest_of(row, 0), view_of(row, 0)), ((), None, ()))
        self.assertEqual((line_of((), 3), newest_of((), 3), view_of((), 3)), ((), None, ()))
        self.assertEqual(view_of(row, 3), row)

    def test_the_newest_event_of_an_elder_life_does_not_count(self):
        rows = Rows()
        rows.start(0)
        rows.start(0, (0, 0, 0), life=2)
        rows.do(0, "tick", life=0)
        rows.do(0, "tick", life=0)
        row = rows.events()
        self.assertEqual(newest_of(row, 0), (0, 2, 0))
        self.assertEqual(view_of(row, 0), row[:2])
        self.assertEqual([event[0] for event in line_of(row, 0)], [(0, 0, 0), (0, 0, 1), (0, 0, 2), (0, 2, 0)])

    def test_a_start_that_keeps_nothing(self):
        rows = Rows()
        rows.start(0)
        rows.do(0, "tick")
        rows.start(0, None)
        row = rows.events()
        self.assertEqual(view_of(row, 0), row[2:])
        self.assertIs(is_behind(row, (0, 1, 0), (0, 0, 1)), False)
        self.assertIs(is_behind(row, (0, 0, 1), (0, 1, 0)), False)


class WholeViews(unittest.TestCase):
    def test_other_orders_and_pasts_are_views(self):
        for dice, row in random_views(32):
            for _ in range(3):
                order = shuffled(dice, row)
                self.assertIs(check_view(order), order)
            seen = set()
            for event in dice.sample(row, min(2, len(row))):
                seen |= full_past(row, event)
            part = tuple(event for event in row if event[0] in seen)
            self.assertIs(check_view(part), part)

    def test_weighty_deeds_are_chains(self):
        for _, row in random_views(33, size=40):
            weighty = [event for event in row if event[2][0] in slow_views.WEIGHTY]
            for one in weighty:
                for two in weighty:
                    of_one_node = one[0][0] == two[0][0]
                    kinds = ("put", "give", "hand")
                    of_one_term = one[2][0] in kinds and two[2][0] in kinds and one[2][1] == two[2][1]
                    if of_one_node or of_one_term:
                        self.assertTrue(is_behind(row, one[0], two[0]) or is_behind(row, two[0], one[0]))

    def test_what_may_come_behind_random_views(self):
        dice = random.Random(34)
        told_of = {}
        for _ in range(60):
            row = some_row(dice, dice.randint(1, 30), dice.randint(1, 4))
            for _ in range(60):
                event = slow_views.some_event(dice, row)
                faults = slow_views.broken(row, event)
                told_of[tuple(sorted(faults))] = True
                expected = ("BadView", len(row)) if faults else ("gives", row + (event,))
                self.assertEqual(told(check_view, row + (event,)), expected, (row, event, faults))
        for condition in (1, 2, 3, 4, 5, 6, 7, 8, 9, 10):
            self.assertIn((condition,), told_of)


class Lives(unittest.TestCase):
    def test_several_later_lives(self):
        rows = Rows()
        rows.start(1)
        rows.start(0)
        rows.do(0, "tick")
        rows.start(0, (0, 0, 0))
        rows.start(0, (0, 0, 0), life=4)
        rows.do(0, "tick")
        rows.start(1, (1, 0, 0), life=9)
        row = rows.events()
        gaps = (((0, 0, 1), (0, 1, 0)), ((0, 1, 0), (0, 4, 0)), ((1, 0, 0), (1, 9, 0)))
        self.assertEqual(life_gaps(row), gaps)
        self.assertEqual(life_gaps(shuffled(random.Random(1), row)), gaps)
        self.assertEqual(life_gaps(view_of(row, 0)), (((0, 0, 0), (0, 4, 0)),))

    def test_elder_lives_not_known(self):
        rows = (((1, 0, 0), (0, 1), ("start", None)), ((5, 2, 0), (0, 1), ("start", None)), ((5, 2, 1), (0, 1), ("tick",)))
        self.assertEqual(life_gaps(rows), ((None, (5, 2, 0)),))
        later = rows + (((5, 6, 0), (0, 1), ("start", None)),)
        self.assertEqual(life_gaps(later), ((None, (5, 2, 0)), ((5, 2, 1), (5, 6, 0))))
        self.assertEqual(life_gaps(view_of(later, 5)), ((None, (5, 6, 0)),))

    def test_no_later_life(self):
        self.assertEqual(life_gaps(()), ())
        self.assertEqual(life_gaps((((1, 0, 0), (0, 1), ("start", None)),)), ())

    def test_random_views(self):
        for _, row in random_views(35):
            gaps = []
            for event in sorted(row, key=lambda one: one[0]):
                if event[2][0] == "start" and event[0][1] > 0:
                    ahead = [other[0] for other in row if other[0][0] == event[0][0] and other[0] < event[0]]
                    gaps.append((max(ahead) if ahead else None, event[0]))
            self.assertEqual(life_gaps(row), tuple(gaps))


def slow_common(row, node):
    """What is left when the node's own events are taken out behind its last send or later start."""
    view = view_of(row, node)
    newest = newest_of(row, node)
    line = [event for event in view if event[0][0] == node and event[0][1] == newest[1]]
    line = sorted(line, key=lambda one: one[0])
    while line and line[-1][2][0] != "send" and not (line[-1][2][0] == "start" and newest[1] > 0):
        line.pop()
    kept = {event[0] for event in line}
    return tuple(event for event in view if event[0][:2] != newest[:2] or event[0] in kept)


class Common(unittest.TestCase):
    def test_random_views(self):
        for dice, row in random_views(36, 60):
            for node in range(5):
                if view_of(row, node):
                    self.assertEqual(common_view(row, node), slow_common(row, node))
                else:
                    self.assertEqual(told(common_view, row, node), ("Refused", node))

    def test_the_last_letter_is_the_newest_event(self):
        rows = Rows()
        rows.start(0)
        rows.do(0, "tick")
        rows.do(0, "send", 1)
        row = rows.events()
        self.assertEqual(common_view(row, 0), row)
        rows.do(0, "tick")
        self.assertEqual(common_view(rows.events(), 0), row)

    def test_the_start_is_the_newest_event(self):
        rows = Rows()
        rows.start(0)
        rows.do(0, "tick")
        self.assertEqual(common_view(rows.events(), 0), ())
        rows.start(0, (0, 0, 1))
        row = rows.events()
        self.assertEqual(common_view(row, 0), row)
        rows.do(0, "ask", ("a",), 0)
        self.assertEqual(common_view(rows.events(), 0), row)

    def test_a_letter_of_an_elder_life(self):
        rows = Rows()
        rows.start(0)
        rows.do(0, "send", 1)
        rows.do(0, "tick")
        rows.start(0, (0, 0, 1))
        rows.do(0, "tick")
        row = rows.events()
        self.assertEqual(common_view(row, 0), row[:2] + row[3:4])

    def test_own_events_that_came_back(self):
        rows = Rows()
        rows.start(0)
        rows.start(1)
        rows.letter(0, 1)
        rows.letter(1, 0)
        rows.do(0, "tick")
        row = rows.events()
        self.assertEqual(common_view(row, 0), row[:5])

    def test_nodes_without_an_event(self):
        self.assertEqual(told(common_view, (), 0), ("Refused", 0))
        self.assertEqual(told(common_view, (((1, 0, 0), (0, 1), ("start", None)),), 0), ("Refused", 0))


if __name__ == "__main__":
    unittest.main()
