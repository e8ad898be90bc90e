"""Points 44 to 49: what promises cover, on which places they are, who holds them, whether they stand."""

import random
import unittest
from fractions import Fraction

from goodtill.fits import earliest_fit, latest_fit
from goodtill.promises import does_stand, gives_on, has_sworn, holders_of, is_past, span_of, ticks_left
from goodtill.views import check_view, newest_of, view_of
from goodtill.webs import positive_ring
from tests.build import Rows
from tests.slow_webs import bounds, number, pair
from tests.some_houses import some_sight
from tests.told import told


def house(*labels):
    """Node 0 with values on some labels of the root."""
    rows = Rows()
    rows.start(0)
    for label in labels:
        rows.put(0, (), label, ("value", 1))
    return rows


class Spans(unittest.TestCase):
    def test_on_what_stands_and_in_gaps(self):
        rows = house("b", "d")
        spans = {}
        for label in ("a", "b", "ba", "c", "d", "e"):
            spans[label] = rows.give(0, (), label, 5, 1)
        row = rows.events()
        expected = {"a": ("gap", None, "b"), "b": ("label", "b"), "ba": ("gap", "b", "d"), "c": ("gap", "b", "d"), "d": ("label", "d"),
                    "e": ("gap", "d", None)}
        self.assertEqual({label: span_of(row, give) for label, give in spans.items()}, expected)

    def test_by_the_givings_own_past(self):
        rows = house()
        empty = rows.give(0, (), "m", 5, 1)
        rows.put(0, (), "m", ("value", 1))
        there = rows.give(0, (), "m", 5, 1)
        rows.put(0, (), "m", None)
        rows.put(0, (), "k", ("name", ("m",)))
        gone = rows.give(0, (), "m", 5, 1)
        rows.put(0, (), "z", ("value", 1))
        row = rows.events()
        self.assertEqual([span_of(row, give) for give in (empty, there, gone)], [("gap", None, None), ("label", "m"), ("gap", "k", None)])

    def test_first_entries_and_pointers_stand(self):
        rows = house()
        term = rows.put(0, (), "p", ("page", 0, (("b", ("value", 1)), ("f", ("value", 2)))))
        gives = [rows.give(0, term, label, 5, 1) for label in "bdf"] + [rows.give(0, (), "p", 5, 1)]
        row = rows.events()
        self.assertEqual([span_of(row, give) for give in gives], [("label", "b"), ("gap", "b", "f"), ("label", "f"), ("label", "p")])

    def test_ids_that_are_no_giving(self):
        rows = house("a")
        rows.give(0, (), "a", 5, 1)
        row = rows.events()
        for wrong in ((0, 0, 0), (0, 0, 1), (0, 0, 3), (5, 0, 2)):
            for function in (span_of, holders_of):
                self.assertEqual(told(function, row, wrong), ("Refused", wrong))
            self.assertEqual(told(has_sworn, row, wrong, 0), ("Refused", wrong))
            for function in (does_stand, is_past, ticks_left):
                self.assertEqual(told(function, (), row, 0, wrong), ("Refused", wrong))
                self.assertEqual(told(function, (), row, 1, wrong), ("Refused", 1))
                self.assertEqual(told(function, (), (), 0, wrong), ("Refused", 0))


class Gives(unittest.TestCase):
    def test_a_put_behind_the_giving(self):
        rows = house("a", "c")
        on, gap = rows.give(0, (), "a", 5, 1), rows.give(0, (), "b", 5, 1)
        self.assertEqual([gives_on(rows.events(), (), label) for label in ("a", "b", "bz", "c", "d")], [(on,), (gap,), (gap,), (), ()])
        rows.put(0, (), "a", ("value", 2))
        rows.put(0, (), "bb", ("value", 2))
        self.assertEqual([gives_on(rows.events(), (), label) for label in ("a", "b", "bb", "bz")], [(), (gap,), (), (gap,)])
        rows.put(0, (), "bb", None)
        rows.put(0, (), "a", None)
        self.assertEqual([gives_on(rows.events(), (), label) for label in ("a", "bb", "az")], [(), (), (gap,)])
        again = rows.give(0, (), "bb", 5, 1)
        self.assertEqual(span_of(rows.events(), again), ("gap", None, "c"))
        self.assertEqual([gives_on(rows.events(), (), label) for label in ("a", "b", "bb")], [(again,), (gap, again), (again,)])

    def test_ids_ascend(self):
        rows = house()
        rows.start(1)
        rows.start(2)
        first = rows.give(0, (), "a", 5, 1)
        rows.do(0, "hand", (), 2)
        rows.letter(0, 2)
        second = rows.give(2, (), "b", 5, 1)
        rows.do(2, "hand", (), 1)
        rows.letter(2, 1)
        third = rows.give(1, (), "c", 5, 2)
        self.assertEqual(gives_on(rows.events(), (), "q"), tuple(sorted((first, second, third))))
        self.assertEqual(gives_on(rows.events(), (), "q"), (first, third, second))

    def test_pages_do_not_mix(self):
        rows = house()
        one = rows.put(0, (), "p", ("page", 0, ()))
        give = rows.give(0, one, "a", 5, 1)
        two = rows.put(0, (), "p", ("page", 0, ()))
        row = rows.events()
        self.assertEqual((gives_on(row, one, "a"), gives_on(row, two, "a"), gives_on(row, (), "a")), ((give,), (), ()))

    def test_terms_that_are_no_page(self):
        rows = house("a")
        give = rows.give(0, (), "a", 5, 1)
        for wrong in (give, (0, 0, 0), (0, 0, 1), (3, 3, 3)):
            self.assertEqual(told(gives_on, rows.events(), wrong, "a"), ("Refused", wrong))
        self.assertEqual(gives_on((), (), "a"), ())


class Holders(unittest.TestCase):
    def passed(self):
        rows = house("a")
        for node in (1, 2, 3):
            rows.start(node)
        give = rows.give(0, (), "a", 9, 2)
        rows.letter(0, 2)
        return rows, give

    def test_passed_and_passed_back(self):
        rows, give = self.passed()
        self.assertEqual(holders_of(rows.events(), give), (0, 2))
        rows.do(2, "pass", give, 3)
        self.assertEqual(holders_of(rows.events(), give), (0, 2, 3))
        rows.letter(2, 3)
        rows.do(3, "pass", give, 2)
        rows.do(3, "pass", give, 1)
        rows.do(0, "pass", give, 1)
        self.assertEqual(holders_of(rows.events(), give), (0, 1, 2, 3))
        rows.do(2, "swear", give)
        self.assertEqual(holders_of(rows.events(), give), (0, 1, 2, 3))
        self.assertEqual([has_sworn(rows.events(), give, node) for node in range(5)], [False, False, True, False, False])

    def test_sworn_off_for_ever(self):
        rows, give = self.passed()
        rows.do(2, "pass", give, 3)
        rows.letter(2, 3)
        rows.do(2, "swear", give)
        rows.do(3, "pass", give, 2)
        self.assertIs(has_sworn(rows.events(), give, 2), True)
        self.assertIs(has_sworn(rows.events(), give, 3), False)

    def test_the_whole_row_is_looked_at(self):
        rows, give = self.passed()
        rows.do(2, "swear", give)
        self.assertIs(has_sworn(rows.events(), give, 2), True)
        self.assertIs(has_sworn(view_of(rows.events(), 0), give, 2), False)
        self.assertIs(has_sworn(view_of(rows.events(), 2), give, 2), True)
        self.assertIs(has_sworn(rows.events(), give, 9), False)

    def test_handed_over_by_a_hand_row(self):
        rows = house("a")
        for node in (1, 2):
            rows.start(node)
        ahead = rows.give(0, (), "a", 9, 2)
        other = rows.put(0, (), "p", ("page", 0, ()))
        beneath = rows.give(0, other, "a", 9, 2)
        rows.do(0, "hand", (), 1)
        self.assertEqual([has_sworn(rows.events(), give, 0) for give in (ahead, beneath)], [True, False])
        rows.letter(0, 1)
        theirs = rows.give(1, (), "a", 9, 2)
        rows.do(1, "hand", (), 0)
        rows.letter(1, 0)
        behind = rows.give(0, (), "a", 9, 2)
        row = rows.events()
        self.assertEqual([has_sworn(row, give, 0) for give in (ahead, beneath, theirs, behind)], [True, False, False, False])
        self.assertEqual([has_sworn(row, give, 1) for give in (ahead, beneath, theirs, behind)], [False, False, True, False])
        self.assertEqual(told(check_view, row + (rows.event(0, "swear", ahead),)), ("BadView", len(row)))

    def test_a_holder_that_hands_over_has_not_sworn(self):
        rows = house()
        rows.start(1)
        rows.start(2)
        give = rows.give(0, (), "a", 9, 1)
        rows.do(0, "hand", (), 1)
        rows.letter(0, 1)
        rows.do(1, "hand", (), 2)
        self.assertEqual([has_sworn(rows.events(), give, node) for node in (0, 1, 2)], [True, False, False])


def asked(reading=(1, 1), end=(9, 1)):
    """Node 1 asks at its 0, house 0 gives at its 5 and writes at its 6, node 1 hears at its 1."""
    rows = Rows()
    rows.start(1, at=0)
    rows.start(0, at=5)
    rows.letter(1, 0)
    give = rows.do(0, "give", (), "a", end, 1)
    rows.do(0, "send", 1, at=6)
    rows.do(1, "hear", (0, 0, 3), at=reading)
    return rows, give


class Times(unittest.TestCase):
    def at(self, rows, reading):
        return rows.events() + (rows.event(1, "tick", at=reading),)

    def test_readings_just_below_at_and_above_an_end(self):
        rows, give = asked()
        hair = Fraction(1, 10 ** 6)
        for ahead, stands, left in ((hair, False, -hair), (0, False, Fraction(0)), (-hair, True, hair)):
            row = self.at(rows, pair(4 + Fraction(ahead)))
            self.assertIs(does_stand((), row, 1, give), stands)
            self.assertEqual(ticks_left((), row, 1, give), pair(left))
        for ahead, over in ((hair, True), (0, True), (-hair, False)):
            row = self.at(rows, pair(4 + Fraction(ahead)))
            self.assertIs(is_past((), row, 1, give), over)

    def test_both_bounds_of_both_clocks(self):
        rows, give = asked()
        tried = 0
        for roster in (((1, 1), (1, 1)), ((2, 3), (2, 2)), ((1, 1), (2, 3)), ((2, 3), (5, 7))):
            (a, b), (c, d) = roster
            for reading in (Fraction(1), Fraction(3, 2), Fraction(2), Fraction(4), Fraction(9), Fraction(12)):
                row = self.at(rows, pair(reading))
                if positive_ring(roster, row) is None:
                    tried += 1
                    passed_most, passed_least = reading * d, (reading - 1) * c
                    # From the hearing of the question to the end are 4 ticks of the house, from its letter 3.
                    self.assertIs(does_stand(roster, row, 1, give), passed_most < 4 * a, (roster, reading))
                    self.assertEqual(ticks_left(roster, row, 1, give), pair((4 * a - passed_most) / d))
                    self.assertIs(is_past(roster, row, 1, give), passed_least >= 3 * b, (roster, reading))

        self.assertEqual(tried, 24)

    def test_own_promises(self):
        rows, give = asked()
        for reading, expected in (((6, 1), (3, 1)), ((9, 1), (0, 1)), ((19, 2), (-1, 2))):
            row = rows.events() + (rows.event(0, "tick", at=reading),)
            self.assertEqual(ticks_left(((1, 7), (1, 7)), row, 0, give), expected)
            self.assertIs(does_stand(((1, 7), (1, 7)), row, 0, give), expected[0] > 0)
            self.assertIs(is_past(((1, 7), (1, 7)), row, 0, give), expected[0] <= 0)

    def test_an_end_that_its_house_has_read(self):
        rows, give = asked(end=(6, 1))
        self.assertEqual((does_stand((), rows.events(), 1, give), is_past((), rows.events(), 1, give)), (False, True))
        self.assertEqual(ticks_left((), rows.events(), 1, give), (0, 1))
        rows, give = asked(end=(0, 1))
        self.assertEqual(ticks_left((), rows.events(), 1, give), (-6, 1))
        self.assertEqual((does_stand((), rows.events(), 1, give), is_past((), rows.events(), 1, give)), (False, True))

    def test_no_way_between(self):
        rows = house("a")
        rows.start(1)
        give = rows.give(0, (), "a", 10 ** 9, 1)
        rows.letter(0, 1)
        self.assertIsNone(ticks_left((), rows.events(), 1, give))
        self.assertIs(does_stand((), rows.events(), 1, give), False)
        self.assertIs(is_past((), rows.events(), 1, give), False)
        late = rows.events() + (rows.event(1, "tick", at=10 ** 9),)
        self.assertIs(is_past((), late, 1, give), True)
        self.assertIs(is_past(((1, 2),), late, 1, give), False)
        self.assertIsNone(ticks_left((), late, 1, give))

    def test_the_newest_event_of_the_givers_line(self):
        rows, give = asked()
        rows.start(0, (0, 0, 3), at=7)
        rows.do(0, "send", 1)
        self.assertEqual(ticks_left((), rows.events(), 1, give), (3, 1))
        rows.do(1, "hear", (0, 1, 1), at=2)
        self.assertEqual(ticks_left((), rows.events(), 1, give), (2, 1))
        self.assertIs(is_past((), rows.events() + (rows.event(1, "tick", at=(4, 1)),), 1, give), True)
        self.assertIs(is_past((), rows.events() + (rows.event(1, "tick", at=(399, 100)),), 1, give), False)

    def test_the_view_of_the_node_alone(self):
        rows, give = asked()
        row = rows.events()
        self.assertEqual(told(does_stand, (), row[:-1], 1, give), ("Refused", give))
        self.assertEqual(told(is_past, (), row[:-1], 1, give), ("Refused", give))
        self.assertEqual(told(ticks_left, (), row[:-1], 1, give), ("Refused", give))
        more = row + (rows.event(0, "tick", at=100),)
        self.assertIs(is_past((), more, 1, give), False)
        self.assertEqual(told(ticks_left, (), more, 2, (0, 0, 0)), ("Refused", 2))


class ItHolds(unittest.TestCase):
    """Point 49, at random rows: by the fits of chapter 9 and by ticks behind the newest event."""

    def views(self, many, seed):
        for index in range(many):
            dice = random.Random(seed + index)
            roster, row = some_sight(dice, dice.randint(8, 40), dice.randint(2, 4), dice.choice((0, 0, 0.03)))
            for node in range(4):
                view = view_of(row, node)
                if view:
                    yield dice, roster, node, view, [event[0] for event in view if event[2][0] == "give"]

    def end_instant(self, roster, view, fit, give, slow):
        """When the giver's clock reads the end, if it goes as fast or as slowly as can be behind its newest event."""
        newest = newest_of(view, give[0])
        at = {event[0]: (number(event[1]), number(instant)) for event, instant in zip(view, fit)}
        end = number({event[0]: event for event in view}[give][2][3])
        ticks = end - at[newest][0]
        return None if ticks <= 0 else at[newest][1] + ticks * bounds(roster, give[0])[slow]

    def test_all_at_once_in_the_earliest_and_the_latest_fit(self):
        stood = passed = open_ones = 0
        for _, roster, node, view, gives in self.views(120, 4900):
            newest = newest_of(view, node)
            early = earliest_fit(roster, view, newest, (10 ** 12, 1))
            late = latest_fit(roster, view, newest)
            for give in gives:
                if give[0] == node:
                    continue
                first = self.end_instant(roster, view, early, give, 0)
                last = self.end_instant(roster, view, late, give, 1)
                self.assertIs(does_stand(roster, view, node, give), first is not None and first > 0)
                self.assertIs(is_past(roster, view, node, give), last is None or last <= 0)
                stood += first is not None and first > 0
                passed += last is None or last <= 0
                open_ones += first is not None and first <= 0 and last > 0
        self.assertGreater(min(stood, passed, open_ones), 20)

    def test_ticks_left_tells_for_how_long(self):
        for dice, roster, node, view, gives in self.views(100, 4950):
            newest = [event for event in view if event[0] == newest_of(view, node)][0]
            for give in gives:
                left = ticks_left(roster, view, node, give)
                self.assertIs(does_stand(roster, view, node, give), left is not None and left[0] > 0)
                self.assertFalse(does_stand(roster, view, node, give) and is_past(roster, view, node, give))
                for more in (Fraction(0), Fraction(1, 3), Fraction(50)) + ((number(left), number(left) - Fraction(1, 7)) if left else ()):
                    if more >= 0:
                        (_, life, count), reading, _ = newest
                        tick = ((node, life, count + 1), pair(number(reading) + more), ("tick",))
                        self.assertIs(does_stand(roster, view + (tick,), node, give), left is not None and number(left) > more)


if __name__ == "__main__":
    unittest.main()
