"""Points 75 and 76: tables, what is live, rights by tables."""

import random
import unittest

from goodtill.finders import good_ticks
from goodtill.houses import put_wait, why_alive
from goodtill.promises import does_stand, is_past
from goodtill.tables import Table
from goodtill.views import common_view
from goodtill.webs import positive_ring
from tests import slow_webs
from tests.build import Rows
from tests.slow_rights import is_page
from tests.slow_runs import full_past
from tests.slow_webs import pair, some_roster
from tests.some_houses import LABELS, some_sight
from tests.some_rows import in_some_order, letters_row, with_readings
from tests.told import told


def filled(roster, node, events):
    """A table that is told some events, none of which it refuses."""
    table = Table(roster, node)
    for event in events:
        assert table.tell(event) is None
    return table


def all_told(table, events):
    """All that a table tells, of what it was told and of more."""
    ids = [event[0] for event in events] + [(9, 9, 9)]
    found = [table.live(), table.live_common()]
    found += [[told(way, x, y) for x in ids for y in ids] for way in (table.way, table.way_common)]
    found += [[told(ask, one) for one in ids] for ask in (table.stands, table.past, table.alive)]
    return found + [[told(table.wait, one, "a") for one in ids], told(table.wait, (), "a"), told(table.good, ("a",), 0)]


def live_of(events):
    """Which events are live among some, as the document tells it."""
    heard = {event[2][1] for event in events if event[2][0] == "hear"}
    last = {}
    for event in events:
        last[event[0][0]] = max(event[0], last.get(event[0][0], event[0]))
    return tuple(sorted(event[0] for event in events
                        if last[event[0][0]] == event[0] or (event[2][0] == "send" and event[0] not in heard)))


def common_of(events, node):
    """The common events of a table that was told these."""
    sends = [event for event in events if event[0][0] == node and event[2][0] == "send"]
    ids = full_past(events, max(sends, key=lambda one: one[0])) if sends else set()
    return tuple(event for event in events if event[0][0] != node or event[0] in ids)


def in_turns(dice, row, node):
    """A row in some order in which a table of a node may be told it."""
    order = []
    for own in sorted((event for event in row if event[0][0] == node), key=lambda one: one[0]):
        past = full_past(row, own)
        order += in_some_order(dice, [event for event in row if event[0] in past and event not in order and event != own])
        order.append(own)
    return order + list(in_some_order(dice, [event for event in row if event not in order]))


def some_tables(many, seed, size=26):
    """Random rosters, nodes and rows of first lives, each in an order in which a table may be told it."""
    for index in range(many):
        dice = random.Random(seed + index)
        roster, row = some_sight(dice, dice.randint(4, size), dice.randint(2, 4))
        node = dice.randrange(4)
        yield dice, roster, node, in_turns(dice, row, node)


class Telling(unittest.TestCase):
    def test_what_is_refused_and_changes_nothing(self):
        rows = Rows()
        rows.start(0)
        rows.start(1)
        rows.letter(1, 0)
        rows.give(0, (), "a", 9, 1)
        rows.do(0, "send", 1)
        table = filled(((1, 1), (1, 2)), 0, rows.events())
        rows.do(1, "tick", at=5)
        before = all_told(table, rows.events())
        bad = list(rows.events()[:-1]) + [
            ((1, 0, 3), (5, 1), ("tick",)), ((2, 0, 1), (0, 1), ("tick",)), ((0, 0, 4), (9, 1), ("hear", (1, 0, 7))),
            ((2, 1, 0), (0, 1), ("start", None)), ((0, 1, 0), (0, 1), ("start", (0, 0, 3))), ((1, 1, 0), (5, 1), ("start", (1, 0, 1))),
            ((0, 0, 2), (0, 1), ("tick",)), ((1, 0, 1), (0, 1), ("tick",))]
        for event in bad:
            self.assertEqual(told(table.tell, event), ("Refused", event[0]))
            self.assertEqual(all_told(table, rows.events()), before)
        table.tell(rows.row[-1])
        self.assertNotEqual(all_told(table, rows.events()), before)

    def test_own_events_behind_what_is_not_in_their_past(self):
        rows = Rows()
        rows.start(1)
        rows.do(1, "send", 0)
        start = ((0, 0, 0), (0, 1), ("start", None))
        for events in (rows.events()[:1], rows.events()):
            table = filled((), 0, events)
            self.assertEqual(told(table.tell, start), ("Refused", (0, 0, 0)))
            self.assertEqual(table.live(), (events[-1][0],))
        table = filled((), 0, (start,) + rows.events())
        self.assertEqual(told(table.tell, ((0, 0, 1), (0, 1), ("tick",))), ("Refused", (0, 0, 1)))
        self.assertEqual(told(table.tell, ((0, 0, 1), (0, 1), ("hear", (1, 0, 1)))), ("gives", None))
        self.assertEqual(told(table.tell, ((0, 0, 2), (0, 1), ("tick",))), ("gives", None))
        table = filled((), 1, rows.events())
        self.assertEqual(told(table.tell, start), ("gives", None))
        self.assertEqual(told(table.tell, ((1, 0, 2), (0, 1), ("tick",))), ("Refused", (1, 0, 2)))

    def test_positive_rings(self):
        rows = Rows()
        rows.start(0)
        sent = rows.do(0, "send", 1)
        rows.start(1)
        rows.do(1, "hear", sent)
        rows.do(1, "send", 0, at=4)
        roster = ((1, 2), (1, 1))
        for reading, fine in (((2, 1), True), ((199, 100), False), ((5, 1), True)):
            event = ((0, 0, 2), reading, ("hear", (1, 0, 2)))
            for node in (0, 2):
                table = filled(roster, node, rows.events())
                self.assertEqual(told(table.tell, event), ("gives", None) if fine else ("Refused", (0, 0, 2)))
                self.assertEqual(table.live(), ((0, 0, 2), (1, 0, 2)) if fine else ((0, 0, 1), (1, 0, 2)))

    def test_the_node_that_is_no_part_of_it(self):
        for _, roster, _, order in some_tables(10, 7500):
            table = filled(roster, 31, order)
            self.assertEqual(table.live(), live_of(order))
            self.assertEqual(table.live_common(), live_of(order))
            self.assertEqual(told(table.good, ("a",), 0), ("Refused", 31))

    def test_random_rings(self):
        refused = 0
        for index in range(400):
            dice = random.Random(7550 + index)
            row = with_readings(dice, letters_row(dice, dice.randint(6, 20), 3))
            roster, so_far = some_roster(dice, 3), ()
            table = Table(roster, 3)
            for event in row:
                if any(step not in [one[0] for one in so_far] for step in full_past(row, event) - {event[0]}):
                    continue
                ring = positive_ring(roster, so_far + (event,))
                self.assertEqual(told(table.tell, event), ("gives", None) if ring is None else ("Refused", event[0]))
                if ring is None:
                    so_far += (event,)
                refused += ring is not None
                self.assertEqual(table.live(), live_of(so_far))
        self.assertGreater(refused, 30)


class Live(unittest.TestCase):
    def test_nothing_told(self):
        table = Table(((1, 2),), 0)
        self.assertEqual((table.live(), table.live_common()), ((), ()))
        for way in (table.way, table.way_common):
            self.assertEqual(told(way, (0, 0, 0), (1, 0, 0)), ("Refused", (0, 0, 0)))
        for ask in (table.stands, table.past, table.alive):
            self.assertEqual(told(ask, (0, 0, 0)), ("Refused", 0))
        self.assertEqual(told(table.wait, (), "a"), ("Refused", 0))
        self.assertEqual(told(table.good, ("a",), 0), ("Refused", 0))

    def test_before_and_behind_each_event(self):
        rows = Rows()
        rows.start(0)
        rows.start(1)
        asked = rows.do(1, "send", 0)
        steps = [
            (rows.row[0], ((0, 0, 0),), ()),
            (rows.row[1], ((0, 0, 0), (1, 0, 0)), ((1, 0, 0),)),
            (rows.row[2], ((0, 0, 0), (1, 0, 1)), ((1, 0, 1),)),
            (((1, 0, 2), (0, 1), ("tick",)), ((0, 0, 0), (1, 0, 1), (1, 0, 2)), ((1, 0, 1), (1, 0, 2))),
        ]
        table = Table((), 0)
        for event, live, common in steps:
            table.tell(event)
            self.assertEqual((table.live(), table.live_common()), (live, common))
        table = filled((), 0, rows.events())
        table.tell(((0, 0, 1), (0, 1), ("hear", asked)))
        self.assertEqual((table.live(), table.live_common()), (((0, 0, 1), (1, 0, 1)), ((1, 0, 1),)))
        table.tell(((1, 0, 2), (0, 1), ("tick",)))
        self.assertEqual((table.live(), table.live_common()), (((0, 0, 1), (1, 0, 2)), ((1, 0, 1), (1, 0, 2))))
        table = filled((), 0, rows.events() + (((0, 0, 1), (0, 1), ("hear", asked)), ((0, 0, 2), (0, 1), ("send", 1))))
        self.assertEqual((table.live(), table.live_common()), (((0, 0, 2), (1, 0, 1)), ((0, 0, 2), (1, 0, 1))))
        table.tell(((0, 0, 3), (0, 1), ("send", 2)))
        self.assertEqual(table.live(), ((0, 0, 2), (0, 0, 3), (1, 0, 1)))

    def test_a_letter_heard_twice(self):
        rows = Rows()
        rows.start(0)
        rows.start(1)
        rows.do(1, "send", 0)
        for reading in (0, 3):
            rows.do(0, "hear", (1, 0, 1), at=reading)
        roster = ((1, 2), (1, 1))
        table = filled(roster, 0, rows.events())
        self.assertEqual(table.live(), ((0, 0, 2), (1, 0, 1)))
        self.assertEqual(table.way((1, 0, 1), (0, 0, 2)), (3, 1))
        table.tell(((1, 0, 2), (2, 1), ("tick",)))
        self.assertEqual(told(table.way, (1, 0, 1), (0, 0, 2)), ("Refused", (1, 0, 1)))

    def test_ways_of_random_tables(self):
        for dice, roster, node, order in some_tables(40, 7600):
            table, so_far = Table(roster, node), ()
            for event in order:
                self.assertIsNone(table.tell(event))
                so_far += (event,)
                common = common_of(so_far, node)
                self.assertEqual(table.live(), live_of(so_far))
                self.assertEqual(table.live_common(), live_of(common))
                if dice.random() < 0.15 or event == order[-1]:
                    self.ways(table.way, roster, so_far, so_far)
                    self.ways(table.way_common, roster, common, so_far)

    def ways(self, way, roster, events, so_far):
        far, live = slow_webs.ways(roster, events), live_of(events)
        for x in live:
            for y in live:
                self.assertEqual(way(x, y), pair(far[x, y]))
        for event in so_far:
            if event[0] not in live:
                self.assertEqual(told(way, event[0], (9, 9, 9)), ("Refused", event[0]))
                if live:
                    self.assertEqual(told(way, live[0], event[0]), ("Refused", event[0]))


class RightsByTables(unittest.TestCase):
    def test_each_method_beside_its_function(self):
        found = {}
        for dice, roster, node, order in some_tables(90, 7700, size=40):
            table, view = Table(roster, node), ()
            for event in order:
                table.tell(event)
                view += (event,)
                if dice.random() < 0.3 or event[2][0] in ("give", "hear"):
                    self.compare(dice, table, roster, view, node, found)
        for kind in (("stands", True), ("stands", False), ("past", True), ("alive", "own"), ("alive", "other"), ("wait", True),
                     ("wait", False), ("good", True), ("good", False)):
            self.assertGreater(found[kind], 10, kind)

    def compare(self, dice, table, roster, view, node, found):
        ids = [event[0] for event in view]
        gives = [event[0] for event in view if event[2][0] == "give"] + [dice.choice(ids), (9, 9, 9)]
        if view[-1][0][0] != node:
            for ask in (table.stands, table.past, table.alive):
                self.assertEqual(told(ask, gives[0]), ("Refused", node))
            self.assertEqual(told(table.wait, (9, 9, 9), "a"), ("Refused", node))
            self.assertEqual(told(table.good, ("a",), 0), ("Refused", node))
            return
        for name, ask, function in (("stands", table.stands, does_stand), ("past", table.past, is_past), ("alive", table.alive, why_alive)):
            for give in gives:
                answer = told(ask, give)
                self.assertEqual(answer, told(function, roster, view, node, give))
                self.note(found, name, answer, answer[1] if name != "alive" else answer[1] and answer[1][0])
        terms = [()] + [event[0] for event in view if is_page(event)] + [dice.choice(ids)]
        for term in terms:
            for label in LABELS:
                answer = told(table.wait, term, label)
                self.assertEqual(answer, told(put_wait, roster, view, node, term, label))
                self.note(found, "wait", answer, answer[1] != (0, 1))
        for _ in range(6):
            name = tuple(dice.choice(LABELS) for _ in range(dice.choice((1, 1, 2))))
            answer = told(table.good, name, 1)
            self.assertEqual(answer, told(good_ticks, roster, view, node, name, 1))
            self.note(found, "good", answer, answer[1] is None)

    def note(self, found, name, answer, sort):
        if answer[0] == "gives":
            found[name, sort] = found.get((name, sort), 0) + 1

    def test_the_common_events_are_the_common_view(self):
        for _, _, node, order in some_tables(40, 7800):
            own = [at for at, event in enumerate(order) if event[0][0] == node]
            if own:
                view = tuple(order[:own[-1] + 1])
                self.assertEqual(common_of(view, node), common_view(view, node))

    def test_two_orders_tell_the_same(self):
        for dice, roster, node, order in some_tables(30, 7900):
            one, two = filled(roster, node, order), filled(roster, node, in_turns(dice, order, node))
            self.assertEqual((one.live(), one.live_common()), (two.live(), two.live_common()))
            for x in one.live():
                for y in one.live():
                    self.assertEqual(one.way(x, y), two.way(x, y))
            if order and order[-1][0][0] == node:
                self.assertEqual(all_told(one, order)[2:], all_told(two, order)[2:])

    def test_tables_do_not_share(self):
        one, two = Table((), 0), Table((), 0)
        one.tell(((0, 0, 0), (0, 1), ("start", None)))
        self.assertEqual((one.live(), two.live()), (((0, 0, 0),), ()))


if __name__ == "__main__":
    unittest.main()
