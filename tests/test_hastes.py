"""Points 64 to 66: runs that show that a change may not be let."""

import random
import unittest

from goodtill.forms import is_page_put
from goodtill.hastejudge import haste_serves
from goodtill.hastes import haste_run
from goodtill.houses import may_put, put_wait
from goodtill.pages import content_of
from goodtill.runs import check_run, is_stale, lost_puts
from goodtill.views import view_of
from tests.build import Rows
from tests.slow_custody import is_kept
from tests.slow_judges import haste_faults
from tests.some_houses import some_late_sight
from tests.some_rows import in_some_order
from tests.test_slips import most_events
from tests.told import ANYTHING, told

ROSTER = ((1, 1), (1, 2), (2, 3), (1, 4))
VALUE = ("value", 5)
OTHER = ("value", 6)
A = ("a",)


class Hastes(unittest.TestCase):
    def shows(self, roster, events, node, term, label, entry=OTHER):
        run = haste_run(roster, events, node, term, label, entry)
        self.assertIs(haste_serves(roster, events, node, term, label, entry, run), True)
        self.assertEqual(haste_faults(roster, events, node, term, label, entry, run), set())
        self.assertLessEqual(len(run), most_events(view_of(events, node)))
        return run

    def refused(self, value, *parts):
        self.assertEqual(told(haste_run, *parts), ("Refused", value))

    def given(self, end=10):
        rows = Rows()
        rows.start(0)
        rows.put(0, (), "a", VALUE)
        rows.start(1)
        rows.letter(1, 0)
        rows.give(0, (), "a", end, 1)
        rows.do(0, "send", 1)
        return rows

    def test_refusals_in_their_order(self):
        view = self.given().events()
        for entry in ANYTHING + (VALUE, OTHER, None):
            self.refused(4, ROSTER, view, 4, (9, 9, 9), "a", entry)
            self.refused(0, ROSTER, (), 0, (), "a", entry)
            self.refused((9, 9, 9), ROSTER, view, 0, (9, 9, 9), "a", entry)
            self.refused((0, 0, 1), ROSTER, view, 1, (0, 0, 1), "a", entry)
            self.refused(((), "a"), ROSTER, view, 1, (), "a", entry)
            self.refused(((), "b"), ROSTER, view, 0, (), "b", entry)
        for entry in ANYTHING + (VALUE, ("value", -1), ("value", True), ("name", ()), ("name", A, 0), ("page", 32, ()), ("page", 1, None), [None]):
            if entry is not None and entry != ("value", 1):
                self.refused(entry, ROSTER, view, 0, (), "a", entry)
        self.shows(ROSTER, view, 0, (), "a", None)

    def test_entries_of_all_kinds(self):
        view = self.given().events()
        for entry in (None, OTHER, ("name", ("q",)), ("page", 0, ()), ("page", 9, (("a", VALUE),)), ("page", 1, ())):
            self.shows(ROSTER, view, 0, (), "a", entry)

    def test_what_stands_there(self):
        """Promised a value, a name, nothing, a page: each other entry is a change; so is a page, always."""
        for stands in (VALUE, ("name", ("q",)), None, ("page", 3, ()), ("page", 0, (("b", VALUE),))):
            rows = Rows()
            rows.start(0)
            if stands is not None:
                rows.put(0, (), "a", stands)
            rows.start(1)
            rows.letter(1, 0)
            rows.give(0, (), "a", 10, 1)
            rows.do(0, "send", 1)
            for entry in (None, VALUE, OTHER, ("name", ("q",)), ("name", ("r",)), ("page", 3, ()), ("page", 0, (("b", VALUE),))):
                if entry == stands and (entry is None or entry[0] != "page"):
                    self.refused(entry, ROSTER, rows.events(), 0, (), "a", entry)
                else:
                    self.shows(ROSTER, rows.events(), 0, (), "a", entry)

    def test_first_entries_stand_too(self):
        rows = Rows()
        rows.start(0)
        page = rows.put(0, (), "a", ("page", 0, (("b", VALUE),)))
        rows.start(1)
        rows.letter(1, 0)
        rows.give(0, (), "a", 10, 1)
        rows.give(0, page, "b", 10, 1)
        rows.do(0, "send", 1)
        self.refused(VALUE, ROSTER, rows.events(), 0, page, "b", VALUE)
        self.shows(ROSTER, rows.events(), 0, page, "b")
        self.shows(ROSTER, rows.events(), 0, page, "b", None)

    def test_no_page_at_six_labels(self):
        rows = Rows()
        rows.start(0)
        rows.start(1)
        rows.letter(1, 0)
        terms = [()]
        for _ in range(5):
            terms.append(rows.put(0, terms[-1], "a", ("page", 0, ())))
        for term in terms:
            rows.give(0, term, "a", 10, 1)
        rows.do(0, "send", 1)
        page = ("page", 2, ())
        for term in terms[:-1]:
            self.shows(ROSTER, rows.events(), 0, term, "a", page)
        self.refused(page, ROSTER, rows.events(), 0, terms[-1], "a", page)
        run = self.shows(ROSTER, rows.events(), 0, terms[-1], "a", VALUE)
        self.assertEqual(run[-1][0][2][:3], ("tell", ("a",) * 6, 0))

    def test_just_ahead_of_the_reading_from_which_on_it_is_let(self):
        rows = self.given()
        rows.do(1, "hear", (0, 0, 4), at=3, now=4)
        rows.do(1, "send", 0)
        rows.do(0, "hear", (1, 0, 3), at=4)
        n, d = put_wait(ROSTER, rows.events(), 0, (), "a")
        self.assertEqual((n, d), (4, 1))
        for at in ((4, 1), (7, 1), (799, 100)):
            more = rows.events() + (((0, 0, 6), at, ("tick",)),)
            self.shows(ROSTER, more, 0, (), "a")
        for at in ((8, 1), (9, 1), (12, 1)):
            more = rows.events() + (((0, 0, 6), at, ("tick",)),)
            self.refused(((), "a"), ROSTER, more, 0, (), "a", OTHER)
        later = rows.events() + (((0, 0, 6), (4, 1), ("send", 1)), ((0, 0, 7), (8, 1), ("tick",)))
        self.shows(ROSTER, later, 0, (), "a")

    def test_promises_of_those_who_kept_the_page_before(self):
        rows = self.given(end=40)
        rows.do(0, "hand", (), 2)
        rows.start(2)
        rows.letter(0, 2)
        self.assertEqual(may_put(ROSTER, rows.events(), 2, (), "a"), ("not", ((0, 0, 3),)))
        self.shows(ROSTER, rows.events(), 2, (), "a")
        rows.do(2, "tick", at=19, now=39)
        self.shows(ROSTER, rows.events(), 2, (), "a")
        rows.do(2, "tick", at=20, now=40)
        self.refused(((), "a"), ROSTER, rows.events(), 2, (), "a", OTHER)

    def test_places_up_the_way(self):
        """House 0 keeps the root and a page two beneath it; another house keeps the one between."""
        rows = Rows()
        rows.start(0)
        page = rows.put(0, (), "a", ("page", 2, ()))
        rows.start(2)
        rows.letter(0, 2)
        deep = rows.put(2, page, "b", ("page", 0, (("c", VALUE),)))
        rows.letter(2, 0)
        rows.start(1)
        rows.letter(1, 0)
        gives = [rows.give(0, (), "a", 10, 1), rows.give(0, deep, "c", 9, 1)]
        rows.do(0, "send", 1)
        self.assertEqual(may_put(ROSTER, rows.events(), 0, deep, "c"), ("not", tuple(gives)))
        run = self.shows(ROSTER, rows.events(), 0, deep, "c")
        self.assertEqual(run[-1][0][2], ("tell", ("a", "b", "c"), 0, (VALUE, ())))
        self.shows(ROSTER, rows.events(), 0, (), "a")

    def test_passed_and_sworn_off(self):
        rows = self.given()
        rows.do(1, "hear", (0, 0, 4), at=1, now=1)
        rows.do(1, "pass", (0, 0, 3), 2)
        rows.do(1, "swear", (0, 0, 3))
        rows.do(1, "send", 0)
        rows.do(0, "hear", (1, 0, 5), at=1)
        run = self.shows(ROSTER, rows.events(), 0, (), "a")
        self.assertEqual([event[0][0] for event, _ in run[len(rows.row):] if event[2][0] == "pass"], [2])
        rows.start(2)
        rows.do(2, "hear", rows.do(1, "send", 2))
        rows.do(2, "swear", (0, 0, 3))
        rows.do(0, "hear", rows.do(2, "send", 0))
        self.refused(((), "a"), ROSTER, rows.events(), 0, (), "a", OTHER)

    def test_several_houses_with_unlike_clocks(self):
        for roster in ((), ((1, 1), (3, 7), (5, 1000)), ((1, 9),) * 8, ((2, 2),) * 32):
            rows = self.given(end=100)
            rows.do(0, "hand", (), 2)
            rows.start(2)
            rows.letter(0, 2)
            rows.start(3)
            rows.letter(3, 2)
            rows.give(2, (), "a", 50, 3)
            rows.letter(2, 3)
            rows.do(2, "hand", (), 0)
            rows.letter(2, 0)
            if told(may_put, roster, rows.events(), 0, (), "a")[1][0] == "not":
                self.shows(roster, rows.events(), 0, (), "a")

    def test_what_ended_lives_have_left(self):
        """Node 1 has begun a second life; the house has begun one, too, and nothing has left it since."""
        rows = self.given()
        rows.do(1, "hear", (0, 0, 4), at=1, now=1)
        rows.start(1, (1, 0, 2))
        rows.do(1, "send", 0)
        rows.do(0, "hear", (1, 1, 1), at=1)
        self.shows(ROSTER, rows.events(), 0, (), "a")
        rows.start(0, (0, 0, 5))
        self.shows(ROSTER, rows.events(), 0, (), "a")
        rows.do(0, "tick", at=7, now=7)
        self.shows(ROSTER, rows.events(), 0, (), "a")

    def test_more_events_than_the_node_has_seen(self):
        rows = self.given()
        rows.do(1, "hear", (0, 0, 4), at=1, now=1)
        rows.do(1, "swear", (0, 0, 3))
        self.shows(ROSTER, rows.events(), 0, (), "a")

    def test_drawn_rows(self):
        """Either the change is let or some run serves: point 66; and its run is kept, alike and stale."""
        found = {}
        for seed in range(420):
            dice = random.Random(42000 + seed)
            roster, row = some_late_sight(dice, dice.randint(6, 36), dice.randint(2, 5), dice.choice((0, 0.03, 0.1)))
            row = in_some_order(dice, row)
            for node in range(5):
                view = view_of(row, node)
                for term in [()] + [event[0] for event in view if is_page_put(event)]:
                    for label in ("a", "b", "c"):
                        may = told(may_put, roster, row, node, term, label)
                        entry = dice.choice((None, ("value", 77), ("name", ("zz",)), ("page", dice.randrange(9), ())))
                        outcome = told(haste_run, roster, row, node, term, label, entry)
                        if may[0] != "gives" or may[1][0] == "let":
                            self.assertEqual(outcome[0], "Refused")
                            found["let"] = found.get("let", 0) + 1
                            continue
                        if outcome[0] == "Refused":
                            self.assertEqual(outcome[1], entry)
                            self.assertTrue(entry is not None and entry[0] == "page" or content_of(view, term, label)[1] == entry)
                            continue
                        run = outcome[1]
                        self.assertIs(haste_serves(roster, row, node, term, label, entry, run), True)
                        self.assertLessEqual(len(run), most_events(view))
                        found["not"] = found.get("not", 0) + 1
                        self.assertTrue(is_stale(run, len(run) - 1))
                        self.assertEqual(lost_puts(run), ())
                        if dice.random() < 0.1:
                            self.assertEqual(check_run(roster, run), run)
                            self.assertEqual(haste_faults(roster, row, node, term, label, entry, run), set())
                            self.assertTrue(is_kept(run))
        self.assertGreater(min(found.values()), 200, found)


if __name__ == "__main__":
    unittest.main()
