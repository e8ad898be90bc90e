"""Points 55 to 60: entry points, shut places, alive, what a house may change, how long it waits, what takes no right."""

import random
import unittest
from fractions import Fraction

from goodtill.coming import may_come
from goodtill.houses import entry_points, may_put, own_end, put_wait, shut_places, why_alive
from goodtill.pages import does_keep
from goodtill.promises import gives_on
from goodtill.record import record_of
from goodtill.views import check_view, common_view, newest_of, view_of
from goodtill.webs import positive_ring
from tests.build import Rows
from tests.slow_views import some_event
from tests.slow_webs import number, pair
from tests.some_houses import LABELS, some_sight
from tests.told import told

PAGE = ("page", 0, ())


def given(end=10, label="a", more=()):
    """House 0 puts, hears node 1, which asked at its 0, gives, and writes; all at its 0."""
    rows = Rows()
    rows.start(0)
    rows.put(0, (), "a", ("value", 5))
    rows.start(1)
    rows.letter(1, 0)
    give = rows.give(0, (), label, end, 1)
    for deed in more:
        rows.do(0, *deed)
    rows.do(0, "send", 1)
    return rows, give


def at(rows, node, reading):
    """The row with a tick of a node at a reading."""
    return rows.events() + (rows.event(node, "tick", at=reading),)


class Entries(unittest.TestCase):
    def test_newest_events_of_others(self):
        rows = Rows()
        for node in range(3):
            rows.start(node)
        self.assertEqual(entry_points(rows.events(), 0), ())
        rows.letter(1, 0)
        self.assertEqual(entry_points(rows.events(), 0), ((1, 0, 1),))
        rows.do(1, "tick")
        rows.letter(2, 0)
        self.assertEqual(entry_points(rows.events(), 0), ((1, 0, 1), (2, 0, 1)))
        self.assertEqual(entry_points(rows.events(), 1), ())
        self.assertEqual(told(entry_points, rows.events(), 5), ("Refused", 5))

    def test_several_lives_of_others(self):
        rows = Rows()
        rows.start(0)
        rows.start(1)
        rows.do(1, "tick")
        rows.start(1, (1, 0, 1), life=2)
        rows.do(1, "tick")
        rows.start(1, (1, 2, 1), life=5)
        rows.do(1, "tick")
        rows.letter(1, 0)
        self.assertEqual(entry_points(rows.events(), 0), ((1, 0, 1), (1, 2, 0), (1, 2, 1), (1, 5, 0), (1, 5, 2)))

    def test_starts_with_nothing_ahead_of_them(self):
        row = (((0, 0, 0), (0, 1), ("start", None)), ((1, 3, 0), (0, 1), ("start", None)), ((1, 3, 1), (0, 1), ("send", 0)),
               ((0, 0, 1), (0, 1), ("hear", (1, 3, 1))))
        self.assertEqual(entry_points(check_view(row), 0), ((1, 3, 0), (1, 3, 1)))
        row = (((0, 3, 0), (0, 1), ("start", None)),)
        self.assertEqual(entry_points(row, 0), ((0, 3, 0),))
        self.assertEqual(entry_points(row + (((0, 3, 1), (0, 1), ("tick",)),), 0), ((0, 3, 0),))

    def test_lives_of_ones_own(self):
        rows = Rows()
        rows.start(0)
        rows.do(0, "tick")
        rows.do(0, "tick")
        rows.start(0, (0, 0, 1))
        self.assertEqual(entry_points(rows.events(), 0), ((0, 0, 1), (0, 1, 0)))
        rows.do(0, "tick")
        rows.start(0, (0, 0, 1))
        self.assertEqual(entry_points(rows.events(), 0), ((0, 0, 1), (0, 2, 0)))
        rows.start(0, (0, 2, 0))
        self.assertEqual(entry_points(rows.events(), 0), ((0, 0, 1), (0, 2, 0), (0, 3, 0)))

    def test_they_stand_in_the_common_view(self):
        for index in range(60):
            dice = random.Random(5500 + index)
            _, row = some_sight(dice, 35, 4, 0.08)
            for node in range(4):
                if view_of(row, node):
                    common = [event[0] for event in common_view(row, node)]
                    self.assertTrue(set(entry_points(row, node)) <= set(common))


class Shut(unittest.TestCase):
    def test_pages_of_ones_own_and_of_others(self):
        rows = Rows()
        rows.start(0)
        one = rows.put(0, (), "p", ("page", 1, ()))
        rows.start(1)
        rows.letter(0, 1)
        two = rows.put(1, one, "q", ("page", 0, ()))
        rows.letter(1, 0)
        row = rows.events()
        self.assertEqual(shut_places(row, 0, two, "z"), (((), "p"), (two, "z")))
        self.assertEqual(shut_places(row, 0, one, "z"), (((), "p"),))
        self.assertEqual(shut_places(row, 1, one, "z"), ((one, "z"),))
        self.assertEqual(shut_places(row, 1, (), "z"), ())
        self.assertEqual(shut_places(row, 1, two, "z"), ((one, "q"),))
        rows.do(0, "hand", (), 1)
        self.assertEqual(shut_places(rows.events(), 0, two, "z"), (((), "p"), (two, "z")))
        rows.do(0, "send", 2)
        self.assertEqual(shut_places(rows.events(), 0, two, "z"), ((two, "z"),))

    def test_errors(self):
        rows, give = given()
        row, place = rows.events(), ((), "a")
        for wrong in ((0, 0, 1), (9, 9, 9)):
            for node in (0, 1):
                self.assertEqual(told(shut_places, row, node, wrong, "a"), ("Refused", wrong))
                self.assertEqual(told(own_end, row, node, wrong, "a"), ("Refused", wrong))
                self.assertEqual(told(may_put, (), row, node, wrong, "a"), ("Refused", wrong))
                self.assertEqual(told(put_wait, (), row, node, wrong, "a"), ("Refused", wrong))
                self.assertEqual(told(why_alive, (), row, node, wrong), ("Refused", wrong))
        for term in ((), (9, 9, 9)):
            self.assertEqual(told(shut_places, row, 7, term, "a"), ("Refused", 7))
            self.assertEqual(told(own_end, row, 7, term, "a"), ("Refused", 7))
            self.assertEqual(told(may_put, (), row, 7, term, "a"), ("Refused", 7))
            self.assertEqual(told(put_wait, (), row, 7, term, "a"), ("Refused", 7))
        self.assertEqual(told(why_alive, (), row, 7, give), ("Refused", 7))
        self.assertEqual(told(why_alive, (), row, 7, (9, 9, 9)), ("Refused", 7))
        self.assertEqual(told(why_alive, (), row, 1, give), ("Refused", give))
        self.assertEqual(told(own_end, row, 1, *place), ("Refused", place))
        self.assertEqual(told(may_put, (), row, 1, *place), ("Refused", place))
        self.assertEqual(told(put_wait, (), row, 1, *place), ("Refused", place))
        self.assertEqual(told(shut_places, row, 1, *place), ("gives", ()))

    def test_a_page_handed_over_is_shut_but_not_kept(self):
        rows, give = given()
        rows.do(0, "hand", (), 1)
        row = rows.events()
        self.assertEqual(shut_places(row, 0, (), "a"), (((), "a"),))
        self.assertEqual(told(may_put, (), row, 0, (), "a"), ("Refused", ((), "a")))


class Alive(unittest.TestCase):
    def test_not_yet_seen_by_others(self):
        rows, give = given()
        self.assertEqual(why_alive((), rows.events(), 0, give), ("own", (1, 0, 1)))
        self.assertIsNone(why_alive((), rows.events()[:-1], 0, give))
        self.assertEqual(may_put((), rows.events()[:-1], 0, (), "a"), ("let", ((), "a")))

    def test_own_just_alive_and_just_not_at_both_bounds(self):
        hair, tried = Fraction(1, 10 ** 9), 0
        for roster in ((), ((1, 2), (1, 2)), ((2, 3), (1, 1)), ((2, 2), (1, 3))):
            rows, give = given()
            for reading, alive in ((10 - hair, True), (10, False), (10 + hair, False)):
                self.assertIs(why_alive(roster, at(rows, 0, pair(Fraction(reading))), 0, give) is not None, alive)
            # Node 1 writes at its 3: at the least 3 c and at the most 3 d units behind its question.
            rows.do(1, "send", 0, at=3)
            (a, _), (c, d) = (tuple(roster) + ((1, 1), (1, 1)))[:2]
            for heard in (Fraction(1), Fraction(3, 2), Fraction(2), Fraction(4), Fraction(6)):
                row = rows.events() + (rows.event(0, "hear", (1, 0, 2), at=pair(heard)),)
                if positive_ring(roster, row) is None:
                    wait = (10 * a - 3 * d - max(Fraction(0), a * heard - 3 * d)) / a
                    self.assertEqual(put_wait(roster, row, 0, (), "a"), pair(max(wait, Fraction(0))))
                    self.assertEqual(why_alive(roster, row, 0, give), ("own", (1, 0, 2)) if wait > 0 else None)
                    tried += 1
        self.assertEqual(tried, 20)

    def test_a_letter_of_the_promised_ones(self):
        rows, give = given()
        rows.do(1, "send", 0, at=3)
        row = rows.events() + (rows.event(0, "hear", (1, 0, 2), at=4),)
        roster = ((1, 1), (1, 2))
        self.assertEqual(put_wait(roster, row, 0, (), "a"), (4, 1))
        self.assertEqual(why_alive(roster, row, 0, give), ("own", (1, 0, 2)))
        later = row + (((0, 0, 6), (8, 1), ("tick",)),)
        self.assertIsNone(why_alive(roster, later, 0, give))
        just = row + (((0, 0, 6), (799, 100), ("tick",)),)
        self.assertEqual(why_alive(roster, just, 0, give), ("own", (1, 0, 2)))

    def other(self, end=9):
        """House 0 gives to 1 and hands the root over to 2, which hears at its 0."""
        rows = Rows()
        for node in range(3):
            rows.start(node)
        give = rows.give(0, (), "a", end, 1)
        rows.do(0, "hand", (), 2)
        rows.letter(0, 2)
        return rows, give

    def test_of_others_just_alive_and_just_not(self):
        rows, give = self.other()
        for roster in ((), ((2, 3), (1, 1), (1, 1)), ((1, 1), (1, 1), (2, 5)), ((2, 3), (1, 1), (2, 5))):
            b = (tuple(roster) + ((1, 1),))[0][1]
            a = (tuple(roster) + ((1, 1),) * 3)[2][0]
            end, hair = Fraction(9 * b, a), Fraction(1, 10 ** 9)
            for reading, alive in ((end - hair, ("other",)), (end, None), (end + hair, None)):
                row = at(rows, 2, pair(reading))
                self.assertEqual(why_alive(roster, row, 2, give), alive)
                self.assertEqual(may_put(roster, row, 2, (), "a"), ("not", (give,)) if alive else ("let", ((), "a")))
            self.assertEqual(put_wait(roster, rows.events(), 2, (), "a"), pair(end))
            self.assertEqual(own_end(rows.events(), 2, (), "a"), (0, 1))

    def test_of_others_that_have_read_the_end(self):
        rows, give = self.other(end=0)
        self.assertIsNone(why_alive((), rows.events(), 2, give))
        rows, give = self.other()
        rows.do(0, "tick", at=9, now=9)
        rows.letter(0, 2)
        self.assertIsNone(why_alive(((1, 1), (1, 1), (1, 9)), rows.events(), 2, give))

    def test_the_giver_that_handed_over_holds_it_no_more(self):
        rows, give = self.other()
        self.assertEqual(why_alive((), rows.events(), 2, give), ("other",))
        rows.do(0, "send", 1)
        rows.do(1, "hear", (0, 0, 4))
        rows.do(1, "swear", give)
        rows.letter(1, 2)
        self.assertIsNone(why_alive((), rows.events(), 2, give))

    def test_sworn_off_by_all_but_one_and_by_all(self):
        rows, give = given()
        rows.do(1, "hear", (0, 0, 4))
        rows.do(1, "pass", give, 2)
        rows.do(1, "pass", give, 3)
        rows.do(1, "send", 0)
        rows.do(0, "hear", (1, 0, 5))
        rows.do(1, "send", 2)
        rows.do(1, "send", 3)
        for node, letter in ((2, (1, 0, 6)), (3, (1, 0, 7))):
            rows.start(node)
            rows.do(node, "hear", letter)
        alive = []
        for node in (3, 1, 2):
            rows.do(node, "swear", give)
            alive.append(why_alive((), rows.events(), 0, give))
            rows.letter(node, 0)
            alive.append(why_alive((), rows.events(), 0, give))
        self.assertEqual([why is not None for why in alive], [True] * 5 + [False])

    def test_passed_by_ones_own_and_not_yet_seen(self):
        rows, give = given()
        rows.do(1, "hear", (0, 0, 4))
        rows.do(1, "swear", give)
        rows.letter(1, 0)
        self.assertIsNone(why_alive((), rows.events(), 0, give))
        rows.do(0, "pass", give, 2)
        self.assertIsNone(why_alive((), rows.events(), 0, give))
        rows.do(0, "send", 2)
        self.assertEqual(why_alive((), rows.events(), 0, give), ("own", (1, 0, 4)))

    def test_what_one_holds_oneself_does_not_count(self):
        rows = Rows()
        rows.start(0)
        rows.start(1)
        give = rows.give(0, (), "a", 9, 1)
        rows.do(0, "hand", (), 1)
        rows.letter(0, 1)
        self.assertIsNone(why_alive((), rows.events(), 1, give))
        self.assertEqual(may_put((), rows.events(), 1, (), "a"), ("let", ((), "a")))

    def test_nobody_seen_no_way_in(self):
        rows = Rows()
        rows.start(0)
        give = rows.give(0, (), "a", 9, 1)
        rows.do(0, "send", 1)
        self.assertIsNone(why_alive((), rows.events(), 0, give))
        self.assertEqual(put_wait((), rows.events(), 0, (), "a"), (0, 1))

    def test_no_way_from_an_entry_point(self):
        rows = Rows()
        rows.start(0)
        rows.start(1)
        rows.letter(1, 0)
        give = rows.give(0, (), "a", 9, 1)
        rows.do(0, "send", 1)
        self.assertEqual(why_alive((), rows.events(), 0, give), ("own", (1, 0, 1)))
        rows.start(2)
        rows.letter(2, 0)
        # Node 2 came behind the letter: from its send no way leads to it.
        self.assertEqual(why_alive((), rows.events(), 0, give), ("own", (1, 0, 1)))
        rows = Rows()
        rows.start(0)
        give = rows.give(0, (), "a", 9, 1)
        rows.do(0, "send", 1)
        rows.start(2)
        rows.letter(2, 0)
        self.assertEqual(entry_points(rows.events(), 0), ((2, 0, 1),))
        self.assertIsNone(why_alive((), rows.events(), 0, give))

    def test_several_entry_points_of_which_one_serves(self):
        rows = Rows()
        for node in range(3):
            rows.start(node)
        rows.letter(1, 0)
        rows.do(2, "send", 0)
        rows.do(0, "hear", (2, 0, 1), at=6, now=6)
        give = rows.give(0, (), "a", 10, 1)
        rows.do(0, "send", 1)
        row = rows.events()
        self.assertEqual(entry_points(row, 0), ((1, 0, 1), (2, 0, 1)))
        self.assertEqual(why_alive((), row, 0, give), ("own", (1, 0, 1)))
        rows.do(1, "send", 0)
        more = row + (((1, 0, 2), (9, 1), ("send", 0)), ((0, 0, 5), (9, 1), ("hear", (1, 0, 2))))
        self.assertEqual(why_alive((), more, 0, give), ("own", (1, 0, 2)))
        # If the clock of node 1 may be slow, too much may have passed there: only who has heard of node 2 can still count.
        roster = ((1, 1), (1, 9))
        self.assertEqual(why_alive(roster, more, 0, give), ("own", (2, 0, 1)))
        self.assertEqual(put_wait(roster, more, 0, (), "a"), (1, 1))
        self.assertIsNone(why_alive(roster, more + (((0, 0, 6), (10, 1), ("tick",)),), 0, give))

    def test_a_start_of_ones_own_serves(self):
        rows = Rows()
        rows.start(0)
        give = rows.give(0, (), "a", 9, 1)
        rows.start(0, give)
        row = rows.events()
        self.assertEqual(entry_points(row, 0), ((0, 0, 1), (0, 1, 0)))
        self.assertEqual(why_alive((), row, 0, give), ("own", (0, 0, 1)))
        self.assertEqual(put_wait((), row, 0, (), "a"), (9, 1))


class Changes(unittest.TestCase):
    def deep(self, *ends):
        """House 0 with two pages, one beneath the other, and a promise on each place of the way to a third one."""
        rows = Rows()
        rows.start(0)
        rows.start(1)
        rows.letter(1, 0)
        one = rows.put(0, (), "p", PAGE)
        two = rows.put(0, one, "q", PAGE)
        for place, end in zip((((), "p"), (one, "q"), (two, "z")), ends):
            rows.give(0, *place, end, 1)
        rows.do(0, "send", 1)
        return rows, one, two

    def test_broken_ways(self):
        rows, one, two = self.deep(9, 9, 9)
        row = rows.events()
        self.assertEqual(may_put((), row, 0, two, "z"), ("not", ((0, 0, 4), (0, 0, 5), (0, 0, 6))))
        self.assertEqual(put_wait((), row, 0, two, "z"), (9, 1))
        rows.put(0, (), "p", None)
        row = rows.events()
        self.assertEqual([may_put((), row, 0, term, "z") for term in (one, two)], [("let", "broken")] * 2)
        self.assertEqual([put_wait((), row, 0, term, "z") for term in (one, two)], [(0, 1)] * 2)
        self.assertEqual(may_put((), row, 0, (), "z"), ("let", ((), "z")))

    def test_several_shut_places_the_first_one_let(self):
        rows, one, two = self.deep(9, 5, 7)
        row = rows.events()
        self.assertEqual(may_put((), row, 0, one, "q"), ("not", ((0, 0, 4), (0, 0, 5))))
        self.assertEqual(put_wait((), row, 0, two, "z"), (5, 1))
        self.assertEqual(put_wait((), row, 0, (), "p"), (9, 1))
        for reading, expected in ((4, ("not", ((0, 0, 4), (0, 0, 5), (0, 0, 6)))), (5, ("let", (one, "q"))), (8, ("let", (one, "q"))),
                                  (9, ("let", ((), "p")))):
            self.assertEqual(may_put((), at(rows, 0, reading), 0, two, "z"), expected)
        self.assertEqual(may_put((), row, 0, two, "y"), ("not", ((0, 0, 4), (0, 0, 5), (0, 0, 6))))
        rows.put(0, two, "y", ("value", 1))
        self.assertEqual(may_put((), rows.events(), 0, two, "y"), ("let", (two, "y")))

    def test_an_open_place_never_bars(self):
        rows = Rows()
        rows.start(0)
        rows.start(1)
        term = rows.put(0, (), "p", ("page", 1, ()))
        rows.give(0, (), "p", 9, 2)
        rows.letter(0, 1)
        row = rows.events()
        self.assertEqual(shut_places(row, 1, term, "z"), ((term, "z"),))
        self.assertEqual(may_put((), row, 1, term, "z"), ("let", (term, "z")))

    def test_the_least_id_of_several_that_are_alive(self):
        rows, give = given(more=(("give", (), "a", (3, 1), 1), ("give", (), "a", (12, 1), 1)))
        self.assertEqual(may_put((), rows.events(), 0, (), "a"), ("not", (give,)))
        self.assertEqual(may_put((), at(rows, 0, 9), 0, (), "a"), ("not", (give,)))
        self.assertEqual(may_put((), at(rows, 0, 10), 0, (), "a"), ("not", ((0, 0, 5),)))
        self.assertEqual(may_put((), at(rows, 0, 12), 0, (), "a"), ("let", ((), "a")))
        self.assertEqual(put_wait((), rows.events(), 0, (), "a"), (12, 1))

    def test_places_without_a_promise(self):
        rows, _ = given()
        self.assertEqual(may_put((), rows.events(), 0, (), "b"), ("let", ((), "b")))
        self.assertEqual(put_wait((), rows.events(), 0, (), "b"), (0, 1))
        rows, give = given(label="b")
        self.assertEqual(may_put((), rows.events(), 0, (), "c"), ("not", (give,)))
        self.assertEqual(may_put((), rows.events(), 0, (), "a"), ("let", ((), "a")))


class Waits(unittest.TestCase):
    def test_just_at_and_just_short(self):
        hair = Fraction(1, 10 ** 9)
        rows, _ = given(more=(("give", (), "b", (7, 2), 1),))
        for roster in ((), ((2, 3), (1, 4))):
            for label, wait in (("a", Fraction(10)), ("b", Fraction(7, 2))):
                self.assertEqual(put_wait(roster, rows.events(), 0, (), label), pair(wait))
                for reading, may in ((wait - hair, "not"), (wait, "let"), (wait + hair, "let")):
                    self.assertEqual(may_put(roster, at(rows, 0, pair(reading)), 0, (), label)[0], may)

    def test_own_ends(self):
        rows, _ = given(more=(("give", (), "a", (3, 1), 1), ("give", (), "b", (99, 1), 1)))
        self.assertEqual([own_end(at(rows, 0, reading), 0, (), "a") for reading in (0, 3, 9, 10, 11)], [(10, 1), (7, 1), (1, 1), (0, 1), (0, 1)])
        self.assertEqual(own_end(rows.events(), 0, (), "c"), (99, 1))
        rows.do(1, "hear", (0, 0, 6))
        rows.do(1, "swear", (0, 0, 3))
        rows.do(0, "swear", (0, 0, 3))
        rows.letter(1, 0)
        self.assertEqual(own_end(rows.events(), 0, (), "a"), (10, 1))
        rows.put(0, (), "a", None)
        self.assertEqual(own_end(rows.events(), 0, (), "a"), (0, 1))

    def test_own_ends_beside_those_of_others(self):
        rows, give = given()
        rows.do(0, "hand", (), 1)
        rows.do(0, "send", 1)
        rows.do(1, "hear", (0, 0, 6))
        self.assertEqual(own_end(rows.events(), 1, (), "a"), (0, 1))
        rows.give(1, (), "a", 4, 0)
        self.assertEqual(own_end(rows.events(), 1, (), "a"), (4, 1))
        self.assertEqual(gives_on(rows.events(), (), "a"), (give, (1, 0, 3)))
        rows.letter(1, 0)
        self.assertEqual(told(own_end, rows.events(), 0, (), "a"), ("Refused", ((), "a")))

    def test_no_promise(self):
        rows = Rows()
        rows.start(0)
        self.assertEqual((own_end(rows.events(), 0, (), "a"), put_wait((), rows.events(), 0, (), "a")), ((0, 1), (0, 1)))


def houses(many, seed, lives=(0, 0, 0.04), size=45):
    """Random views of nodes with the places that they may ask of, where they keep pages."""
    for index in range(many):
        dice = random.Random(seed + index)
        roster, row = some_sight(dice, dice.randint(10, size), dice.randint(2, 4), dice.choice(lives))
        for node in range(4):
            view = view_of(row, node)
            terms = [()] + [event[0] for event in view if event[2][0] == "put" and event[2][3] and event[2][3][0] == "page"]
            places = [(term, label) for term in terms if does_keep(view, node, term) for label in LABELS]
            if places:
                yield dice, roster, row, node, view, places


class ItHolds(unittest.TestCase):
    def test_waits_behind_a_tick(self):
        waited = 0
        for _, roster, _, node, view, places in houses(120, 5900):
            newest = [event for event in view if event[0] == newest_of(view, node)][0]
            (_, life, count), reading, _ = newest
            for place in places:
                wait = number(put_wait(roster, view, node, *place))
                waited += wait > 0
                self.assertEqual(may_put(roster, view, node, *place)[0] == "let", wait == 0)
                for more in {Fraction(0), wait, wait * Fraction(99, 100), wait + 1, Fraction(1)}:
                    tick = ((node, life, count + 1), pair(number(reading) + more), ("tick",))
                    self.assertEqual(may_put(roster, view + (tick,), node, *place)[0] == "let", more >= wait)
                if all(give[0] == node for give in gives_on(view, *place)):
                    self.assertLessEqual(wait, number(own_end(view, node, *place)))
        self.assertGreater(waited, 100)

    def test_what_comes_takes_no_right(self):
        taken = kept = 0
        for dice, roster, row, node, view, places in houses(70, 6000, lives=(0, 0.05), size=30):
            record, more = record_of(view), view
            let = [place for place in places if may_put(roster, view, node, *place)[0] == "let"]
            sent = started = False
            for _ in range(40):
                event = some_event(dice, more, 4)
                if dice.random() < 0.4 and row:
                    event = dice.choice(row)
                mine = event[0][0] == node
                if not may_come(record, event) or positive_ring(roster, more + (event,)) is not None:
                    continue
                sent = sent or (mine and event[2][0] == "send")
                started = started or (mine and event[2][0] == "start")
                record.take(event)
                more += (event,)
                for term, label in let:
                    if does_keep(more, node, term):
                        may = may_put(roster, more, node, term, label)[0]
                        if not sent and not started:
                            kept += mine
                            self.assertEqual(may, "let")
                        else:
                            taken += may == "not"
        self.assertGreater(kept, 300)
        self.assertGreater(taken, 3)

    def test_a_send_and_a_start_take_it(self):
        rows, give = given()
        self.assertEqual(may_put((), rows.events()[:-1], 0, (), "a")[0], "let")
        self.assertEqual(may_put((), rows.events(), 0, (), "a")[0], "not")
        ahead = rows.events()[:-1] + (((0, 1, 0), (0, 1), ("start", (0, 0, 3))),)
        self.assertEqual(may_put((), ahead, 0, (), "a"), ("not", (give,)))
        later = rows.events() + (((1, 0, 2), (3, 1), ("send", 0)), ((0, 0, 5), (4, 1), ("hear", (1, 0, 2))))
        roster = ((1, 1), (1, 2))
        self.assertEqual(may_put(roster, later + (((0, 0, 6), (8, 1), ("tick",)),), 0, (), "a")[0], "let")
        again = later + (((0, 0, 6), (8, 1), ("tick",)), ((0, 0, 7), (8, 1), ("send", 1)))
        self.assertEqual(may_put(roster, again, 0, (), "a")[0], "not")


if __name__ == "__main__":
    unittest.main()
