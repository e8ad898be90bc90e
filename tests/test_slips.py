"""Points 61 to 63: runs that show that an answer may not be told."""

import random
import unittest

from goodtill.finders import may_tell
from goodtill.hastes import unnamed
from goodtill.runs import check_run, is_stale, lost_puts
from goodtill.slipjudge import slip_serves
from goodtill.slips import slip_run
from goodtill.tree import walk_view
from goodtill.views import check_view, view_of
from tests.build import Rows
from tests.slow_custody import is_kept
from tests.slow_judges import slip_faults
from tests.some_houses import some_late_sight
from tests.some_rows import in_some_order
from tests.told import ANYTHING, told

ROSTER = ((1, 1), (1, 2), (2, 3), (1, 4))
VALUE = ("value", 5)
ANSWER = (VALUE, ())
NOTHING = (("nothing",), ())
A = ("a",)


def many_named(view):
    """How many nodes a row names."""
    named = {0}
    for event in view:
        named.add(event[0][0])
        if event[2][0] in ("send", "give", "pass", "hand"):
            named.add(event[2][-1])
        if event[2][0] == "put" and event[2][3] and event[2][3][0] == "page":
            named.add(event[2][3][1])
    return len(named)


def most_events(view):
    """How many events a run that shows something has at the most."""
    starts = [event for event in view if event[2][0] == "start" and event[0][1] > 0]
    return 2 * len(view) + 10 * many_named(view) + 10 * len(starts) + 20


class Slips(unittest.TestCase):
    def shows(self, roster, events, node, name, most, answer):
        run = slip_run(roster, events, node, name, most, answer)
        self.assertIs(slip_serves(roster, events, node, name, most, answer, run), True)
        self.assertEqual(slip_faults(roster, events, node, name, most, answer, run), set())
        self.assertLessEqual(len(run), most_events(view_of(events, node)))
        return run

    def refused(self, value, *parts):
        self.assertEqual(told(slip_run, *parts), ("Refused", value))

    def asked(self, end=10):
        """House 0 has promised node 1 what stands at a; node 1 has heard it at its 2."""
        rows = Rows()
        rows.start(0)
        rows.put(0, (), "a", VALUE)
        rows.start(1)
        rows.letter(1, 0)
        rows.give(0, (), "a", end, 1)
        rows.do(1, "hear", rows.do(0, "send", 1), at=2, now=2)
        return rows

    def test_refusals_in_their_order(self):
        view = self.asked().events()
        for answer in ANYTHING + (ANSWER, NOTHING):
            self.refused(4, ROSTER, view, 4, A, 0, answer)
            self.refused(1, ROSTER, (), 1, A, 0, answer)
        for answer in ANYTHING + (("value", 5), (("value", -1), ()), (VALUE, [("a",)]), (VALUE, (("a",),) * 10), [VALUE, ()],
                                  (("value", True), ()), (("far",), ((),)), (("page", 0), ()), (("page", 0, None), ())):
            self.refused(answer, ROSTER, view, 1, A, 0, answer)
        self.refused(ANSWER, ROSTER, view, 1, A, 0, ANSWER)
        self.refused(NOTHING, ROSTER, view, 0, ("b",), 0, NOTHING)

    def test_wrong_answers_where_one_may_be_told(self):
        view = self.asked().events()
        self.assertEqual(may_tell(ROSTER, view, 1, A, 0), ("told", ANSWER))
        for answer in ((("value", 6), ()), NOTHING, (VALUE, (("a",),)), (("page", 3, (0, 0, 1)), ()), (("page", 0, ()), ()), (("long",), ()),
                       (("far",), (("b", "c"),)), (("value", 10 ** 10), (("a",),) * 9)):
            for node in (0, 1):
                self.shows(ROSTER, view, node, A, 0, answer)

    def test_promises_that_just_stand_and_just_do_not(self):
        for at, stands in (((5, 1), False), ((499, 100), True), ((1, 1), True), ((51, 10), False)):
            rows = self.asked()
            rows.row[-1] = (rows.row[-1][0], (1, 1) if at == (1, 1) else (2, 1), rows.row[-1][2])
            rows.do(1, "tick", at=at)
            parts = (ROSTER, rows.events(), 1, A, 0, ANSWER)
            if stands:
                self.refused(ANSWER, *parts)
            else:
                self.shows(*parts)

    def test_nothing_promised_at_all(self):
        rows = Rows()
        rows.start(1)
        for answer in (NOTHING, ANSWER):
            run = self.shows(ROSTER, rows.events(), 1, A, 0, answer)
            self.assertEqual(run[-1][0], ((1, 0, 1), (0, 1), ("tell", A, 0, answer)))

    def test_where_the_walk_has_the_same_answer_still(self):
        rows = self.asked()
        for name, answer in ((("a", "b"), NOTHING), (("q",), NOTHING)):
            rows.do(1, "tick", at=9, now=20)
            run = self.shows(ROSTER, rows.events(), 1, name, 0, answer)
            puts = [event[2] for event, _ in run[len(rows.row):] if event[2][0] == "put"]
            self.assertEqual([(put[1], put[2], put[3][0]) for put in puts], [((), name[0], "name")])

    def test_names_and_pages_on_the_way(self):
        rows = Rows()
        rows.start(0)
        page = rows.put(0, (), "a", ("page", 2, (("b", VALUE), ("c", ("name", ("a", "b"))))))
        rows.put(0, (), "n", ("name", ("a", "c")))
        rows.start(3)
        rows.letter(0, 3)
        for name, most, answer in ((("n",), 2, (VALUE, (("a", "c"), ("a", "b")))), (("n",), 0, (("far",), (("a", "c"),))),
                                   (("n", "x", "x", "x", "x", "x"), 3, (("long",), (("a", "c"),))),
                                   (A, 0, (("page", 2, page), ())), (("a", "b", "x"), 0, NOTHING), (("a", "q"), 1, NOTHING)):
            self.assertEqual(walk_view(view_of(rows.events(), 3), name, most)[0], answer)
            self.shows(ROSTER, rows.events(), 3, name, most, answer)

    def test_holders_that_must_swear(self):
        """Nodes 1, 2 and 4 hold promises of house 0, which node 3 has seen; all of them are called back."""
        rows = self.asked(end=1000)
        rows.do(1, "pass", (0, 0, 3), 2)
        rows.do(1, "pass", (0, 0, 3), 4)
        rows.start(3)
        rows.letter(1, 3)
        run = self.shows(ROSTER, rows.events(), 3, A, 0, ANSWER)
        swears = sorted(event[0][0] for event, _ in run if event[2] == ("swear", (0, 0, 3)))
        self.assertEqual(swears, [1, 2, 4])

    def test_who_has_sworn_need_not_swear_again(self):
        rows = self.asked(end=1000)
        rows.do(1, "pass", (0, 0, 3), 2)
        rows.do(1, "swear", (0, 0, 3))
        rows.start(3)
        rows.letter(1, 3)
        run = self.shows(ROSTER, rows.events(), 3, A, 0, ANSWER)
        self.assertEqual([event[0][0] for event, _ in run if event[2] == ("swear", (0, 0, 3))], [1, 2])

    def test_who_has_sworn_itself(self):
        rows = self.asked(end=1000)
        rows.do(1, "swear", (0, 0, 3))
        self.refused(ANSWER, ROSTER, rows.events(), 1, A, 0, ANSWER)
        rows.do(1, "send", 5)
        self.shows(ROSTER, rows.events(), 1, A, 0, ANSWER)
        rows.do(1, "send", 0)
        self.shows(ROSTER, rows.events(), 1, A, 0, ANSWER)

    def test_pages_that_have_been_handed_over(self):
        rows = Rows()
        rows.start(0)
        rows.put(0, (), "a", VALUE)
        rows.start(1)
        rows.letter(1, 0)
        rows.give(0, (), "a", 10, 1)
        rows.do(0, "hand", (), 2)
        rows.letter(0, 1)
        self.refused(ANSWER, ROSTER, rows.events(), 1, A, 0, ANSWER)
        rows.do(1, "tick", at=9, now=12)
        run = self.shows(ROSTER, rows.events(), 1, A, 0, ANSWER)
        self.assertEqual([event[0][0] for event, _ in run[-3:] if event[2][0] == "put"], [2])
        rows.start(2)
        rows.letter(0, 2)
        rows.do(0, "tick")
        self.shows(ROSTER, rows.events(), 0, A, 0, ANSWER)

    def test_what_left_by_a_life_that_has_ended(self):
        """Node 1's hand row is in what its second life keeps; nothing has left it since."""
        rows = Rows()
        rows.start(0)
        rows.put(0, (), "a", VALUE)
        rows.do(0, "hand", (), 1)
        rows.start(1)
        rows.do(1, "hear", rows.do(0, "send", 1))
        rows.do(1, "hand", (), 0)
        rows.start(1, (1, 0, 2))
        view = rows.events()
        run = self.shows(ROSTER, view, 1, A, 0, ANSWER)
        extra = [event for event, _ in run if event[0][:2] == (1, 0) and event not in view]
        self.assertEqual(extra, [((1, 0, 3), (0, 1), ("send", 0))])
        rows.do(1, "tick", at=3, now=4)
        self.shows(ROSTER, rows.events(), 1, A, 0, ANSWER)
        rows.do(1, "send", 7)
        self.shows(ROSTER, rows.events(), 1, A, 0, ANSWER)

    def test_a_first_start_of_a_later_life(self):
        row = (((1, 3, 0), (4, 1), ("start", None)), ((1, 3, 1), (5, 1), ("tick",)))
        self.assertEqual(check_view(row), row)
        self.shows(ROSTER, row, 1, A, 0, NOTHING)

    def test_rows_in_which_an_elder_life_stands_behind_a_later_one(self):
        rows = Rows()
        rows.start(1)
        rows.do(1, "send", 0)
        rows.start(1, (1, 0, 1))
        rows.do(1, "send", 0)
        rows.do(1, "tick", life=0)
        rows.do(1, "send", 0, life=0)
        rows.start(0)
        for send in ((1, 1, 1), (1, 0, 3)):
            rows.do(0, "hear", send)
        self.assertEqual(check_view(rows.events()), rows.events())
        run = self.shows(ROSTER, rows.events(), 0, A, 0, ANSWER)
        lives = [event[0] for event, _ in run if event[0][0] == 1]
        self.assertEqual(lives, sorted(lives))
        rows.start(3)
        rows.letter(0, 3)
        self.shows(ROSTER, rows.events(), 3, A, 0, NOTHING)

    def test_houses_with_slow_clocks_that_nothing_leads_to(self):
        """What node 1 has heard of house 2 may be as old as can be: by now its clock may read any end."""
        for clocks in (((1, 1), (1, 1), (1000, 1000)), ((1, 1), (1, 1), (1000, 1000), (7, 9))):
            rows = Rows()
            rows.start(0)
            rows.put(0, (), "a", VALUE)
            rows.do(0, "hand", (), 2)
            rows.start(2)
            rows.letter(0, 2)
            rows.give(2, (), "a", 10 ** 10, 1)
            rows.do(2, "hand", (), 3)
            rows.start(1)
            rows.letter(2, 1)
            run = self.shows(clocks, rows.events(), 1, A, 0, ANSWER)
            self.assertEqual([event[0][0] for event, _ in run if event[2] == ("put", (), "a", None)], [3])

    def test_more_events_than_the_node_has_seen(self):
        rows = self.asked()
        view = rows.events()
        rows.put(0, (), "a", ("value", 6))
        self.refused(ANSWER, ROSTER, rows.events(), 1, A, 0, ANSWER)
        self.shows(ROSTER, rows.events(), 1, A, 0, (("value", 6), ()))
        self.assertEqual(view_of(rows.events(), 1), view)

    def test_drawn_rows(self):
        """Either the answer is told or some run serves: point 63 (2); and its run is kept, alike and stale."""
        found = {}
        for seed in range(260):
            dice = random.Random(31000 + seed)
            roster, row = some_late_sight(dice, dice.randint(1, 36), dice.randint(2, 5), dice.choice((0, 0, 0.03, 0.1)))
            row = in_some_order(dice, row)
            for node in range(5):
                if not view_of(row, node):
                    continue
                name = tuple(dice.choice(("a", "b", "c", "bb")) for _ in range(dice.choice((1, 1, 2, 3))))
                most = dice.randint(0, 3)
                answer = walk_view(view_of(row, node), name, most)[0]
                right = may_tell(roster, row, node, name, most)
                for one in (answer, (("value", 99), ())):
                    outcome = told(slip_run, roster, row, node, name, most, one)
                    if right == ("told", one):
                        self.assertEqual(outcome, ("Refused", one))
                        found["told"] = found.get("told", 0) + 1
                        continue
                    run = outcome[1]
                    self.assertIs(slip_serves(roster, row, node, name, most, one, run), True)
                    self.assertLessEqual(len(run), most_events(view_of(row, node)))
                    key = "wrong" if one != answer else "not"
                    found[key] = found.get(key, 0) + 1
                    self.assertTrue(is_stale(run, len(run) - 1))
                    self.assertEqual(lost_puts(run), ())
                    if dice.random() < 0.1:
                        self.assertEqual(check_run(roster, run), run)
                        self.assertEqual(slip_faults(roster, row, node, name, most, one, run), set())
                        self.assertTrue(is_kept(run))
        self.assertGreater(min(found[key] for key in ("told", "wrong", "not")), 100, found)

    def test_the_least_node_that_is_not_named(self):
        rows = Rows()
        self.assertEqual(unnamed(rows.events()), 1)
        rows.start(0)
        rows.put(0, (), "a", ("page", 2, ()))
        self.assertEqual(unnamed(rows.events()), 1)
        rows.do(0, "send", 1)
        rows.give(0, (), "a", 5, 3)
        rows.do(0, "pass", (0, 0, 3), 4)
        self.assertEqual(unnamed(rows.events()), 5)
        rows.do(0, "hand", (), 5)
        self.assertEqual(unnamed(rows.events()), 6)
        rows.start(6)
        rows.do(6, "tell", A, 0, (("page", 7, ()), ()))
        self.assertEqual(unnamed(rows.events()), 7)


if __name__ == "__main__":
    unittest.main()
