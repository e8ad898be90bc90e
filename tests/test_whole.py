"""Points 91 and 92: what all may do at a place of a run, and what if they did more."""

import random
import unittest

from goodtill.finders import may_tell
from goodtill.forms import is_page_put
from goodtill.hastejudge import haste_serves
from goodtill.houses import may_put
from goodtill.pages import content_of, does_keep
from goodtill.runs import is_stale, seen_by
from goodtill.slipjudge import slip_serves
from goodtill.stops import harm_of
from goodtill.tree import walk_view, way_to
from goodtill.views import view_of
from goodtill.whole import whole_meter, wider_run
from tests.build import Rows
from tests.slow_runs import is_torn
from tests.some_houses import Play, RulePlay, some_clocks, some_late_sight
from tests.told import ANYTHING, told

ROSTER = ((1, 1), (1, 2), (2, 3))
VALUE = ("value", 5)
A = ("a",)
ANSWER = (VALUE, ())


def asked():
    """House 0 has promised node 1 what stands at a."""
    rows = Rows()
    rows.start(0)
    rows.put(0, (), "a", VALUE)
    rows.start(1)
    rows.letter(1, 0)
    rows.give(0, (), "a", 10, 1)
    rows.letter(0, 1)
    return rows


class Meter(unittest.TestCase):
    def right(self, roster, run, place, names, most):
        """Holds a meter against the functions of which it is made."""
        meter = whole_meter(roster, run, place, names, most)
        here = []
        for node in range(32):
            view = seen_by(run, place, node)
            if view and not is_torn(list(view), {event[0] for event in view}):
                here.append(node)
        self.assertEqual([row[0] for row in meter], here)
        for node, tells, puts in meter:
            view = seen_by(run, place, node)
            self.assertEqual([row[0] for row in tells], list(names))
            for name, outcome in tells:
                told_now = may_tell(roster, view, node, name, most)
                if told_now[0] == "told":
                    self.assertEqual(outcome, told_now)
                else:
                    answer = walk_view(view, name, most)[0]
                    self.assertEqual(outcome[0], "slip")
                    self.assertTrue(slip_serves(roster, view, node, name, most, answer, outcome[1]))
            self.assertEqual([row[0] for row in puts], self.places(view, node))
            for (term, label), outcome in puts:
                may = may_put(roster, view, node, term, label)
                if may[0] == "let":
                    self.assertEqual(outcome, may)
                else:
                    stands = content_of(view, term, label)[1]
                    self.assertEqual(outcome[0], "haste")
                    entry = ("value", 0) if stands is None else None
                    self.assertTrue(haste_serves(roster, view, node, term, label, entry, outcome[1]))
        return meter

    def places(self, view, node):
        found = set()
        for event in view:
            if event[2][0] == "put":
                found.add(event[2][1:3])
                if is_page_put(event):
                    found |= {(event[0], label) for label, _ in event[2][3][2]}
        return sorted(place for place in found if does_keep(view, node, place[0]))

    def test_names_and_places_from_none_on(self):
        rows = asked()
        run = rows.run()
        self.assertEqual(whole_meter(ROSTER, (), 0, (A,), 0), ())
        self.assertEqual(whole_meter(ROSTER, run, 0, (A,), 0), ())
        self.assertEqual(whole_meter(ROSTER, run, 1, (), 0), ((0, (), ()),))
        for place in range(len(run) + 1):
            for names in ((), (A,), (("q",), A, ("a", "b"), A)):
                self.right(ROSTER, run, place, names, 1)
        self.assertEqual(whole_meter(ROSTER, run, len(run), (A, A), 0)[1], (1, ((A, ("told", ANSWER)),) * 2, ()))

    def test_rows_ascend(self):
        rows = Rows()
        rows.start(5)
        rows.start(0)
        page = rows.put(0, (), "m", ("page", 0, (("b", VALUE), ("c", VALUE))))
        rows.put(0, (), "a", VALUE)
        rows.put(0, page, "a", VALUE)
        rows.put(0, page, "b", None)
        other = rows.put(0, (), "m", ("page", 3, (("z", VALUE),)))
        rows.start(3)
        rows.letter(0, 3)
        meter = self.right(ROSTER, rows.run(), len(rows.row), (A,), 0)
        self.assertEqual([row[0] for row in meter], [0, 3, 5])
        self.assertEqual([row[0] for row in meter[0][2]], [((), "a"), ((), "m"), (page, "a"), (page, "b"), (page, "c")])
        self.assertEqual([row[0] for row in meter[1][2]], [(other, "z")])
        self.assertEqual(dict(meter[0][2])[(page, "a")], ("let", "broken"))

    def test_entries_where_nothing_stands(self):
        rows = asked()
        rows.put(0, (), "b", VALUE)
        rows.put(0, (), "b", None)
        rows.give(0, (), "b", 10, 1)
        rows.letter(0, 1)
        meter = dict((node, dict(puts)) for node, _, puts in self.right(ROSTER, rows.run(), len(rows.row), (), 0))
        last = [event[2] for event, _ in meter[0][((), "b")][1] if event[2][:3] == ("put", (), "b")][-1]
        self.assertEqual(last[3], ("value", 0))

    def test_torn_views_are_left_out(self):
        rows = asked()
        rows.letter(0, 1)
        rows.start(0, (0, 0, 2))
        rows.do(1, "hear", rows.do(0, "send", 1))
        meters = [self.right(ROSTER, rows.run(), place, (A,), 0) for place in range(len(rows.row) - 3, len(rows.row) + 1)]
        self.assertEqual([[row[0] for row in meter] for meter in meters], [[0, 1], [0, 1], [0, 1], [0]])

    def test_drawn_runs(self):
        found = {}
        for seed in range(150):
            dice = random.Random(61000 + seed)
            nodes = dice.randint(2, 4)
            roster = some_clocks(dice, nodes)
            run = Play(dice, roster, nodes, dice.choice((0, 0.06)), losses=True).grow(dice.randint(4, 30))
            names = tuple((dice.choice("abc"),) * dice.choice((1, 1, 2)) for _ in range(dice.randint(0, 3)))
            for place in {0, len(run), dice.randint(0, len(run))}:
                for _, tells, puts in self.right(roster, run, place, names, dice.randint(0, 2)):
                    for _, outcome in tells + puts:
                        found[outcome[0]] = found.get(outcome[0], 0) + 1
        self.assertGreater(min(found[key] for key in ("told", "slip", "let", "haste")), 15, found)


class MainTheorem(unittest.TestCase):
    """Point 92 (1), and with it points 43, 63 (1) and 71: runs whose nodes keep to the rule."""

    def test_no_answer_is_stale_and_no_page_has_two_keepers(self):
        tells = puts = 0
        for seed in range(120):
            dice = random.Random(63000 + seed)
            nodes = dice.randint(2, 4)
            roster = some_clocks(dice, nodes)
            run = RulePlay(dice, roster, nodes, dice.choice((0, 0.05))).grow(dice.randint(5, 40))
            for place, (event, _) in enumerate(run):
                if event[2][0] == "tell":
                    tells += 1
                    self.assertIs(is_stale(run, place), False)
                puts += event[2][0] == "put"
            self.assertIsNone(harm_of(run))
            pages = [()] + [event[0] for event, _ in run if is_page_put(event)]
            for place in range(len(run) + 1):
                views = [seen_by(run, place, node) for node in range(nodes)]
                for term in pages:
                    self.assertLessEqual(len([node for node in range(nodes) if does_keep(views[node], node, term)]), 1)
        self.assertGreater(min(tells, puts), 100)


class Wider(unittest.TestCase):
    def refused(self, value, *parts):
        self.assertEqual(told(wider_run, *parts), ("Refused", value))

    def test_refusals_in_their_order(self):
        view = asked().events()
        tell, put = ("tell", A, 0, ANSWER), ("put", (), "a", None)
        for deed in ANYTHING + (tell, put):
            self.refused(4, ROSTER, view, 4, deed)
            self.refused(0, ROSTER, (), 0, deed)
        for deed in ANYTHING + (("tick",), ("send", 1), ("give", (), "a", (10, 1), 1), ("hand", (), 1), ("swear", (0, 0, 3)), list(tell), tell + (1,),
                                ("tell", A, 9, ANSWER), ("tell", (), 0, ANSWER), ("tell", A, 0, VALUE), ("put", (), "a"), ("put", (), "A", None),
                                ("put", None, "a", None), ("put", (), "a", ("value", -1)), ("put", (), "a", ("page", 1, [])), ("told", A, 0, ANSWER)):
            self.refused(deed, ROSTER, view, 0, deed)
        for entry in (None, VALUE, ("value", 6), ("page", 1, ())):
            self.refused((0, 0, 9), ROSTER, view, 0, ("put", (0, 0, 9), "a", entry))
            self.refused((0, 0, 1), ROSTER, view, 1, ("put", (0, 0, 1), "a", entry))
            self.refused(((), "a"), ROSTER, view, 1, ("put", (), "a", entry))
        self.refused(VALUE, ROSTER, view, 0, ("put", (), "a", VALUE))
        self.refused(None, ROSTER, view, 0, ("put", (), "b", None))

    def test_no_page_at_six_labels(self):
        rows = Rows()
        rows.start(0)
        term = ()
        for _ in range(5):
            self.assertIsNone(wider_run(ROSTER, rows.events(), 0, ("put", term, "a", ("page", 0, ()))))
            term = rows.put(0, term, "a", ("page", 0, ()))
        self.refused(("page", 0, ()), ROSTER, rows.events(), 0, ("put", term, "a", ("page", 0, ())))
        self.assertIsNone(wider_run(ROSTER, rows.events(), 0, ("put", term, "a", VALUE)))

    def test_tellings(self):
        view = asked().events()
        self.assertIsNone(wider_run(ROSTER, view, 1, ("tell", A, 0, ANSWER)))
        for name, answer in ((A, (("value", 6), ())), (A, (("nothing",), ())), (("b",), (("nothing",), ())), (("b",), ANSWER)):
            run = wider_run(ROSTER, view, 1, ("tell", name, 0, answer))
            self.assertTrue(slip_serves(ROSTER, view, 1, name, 0, answer, run))

    def test_puts(self):
        view = asked().events()
        self.assertIsNone(wider_run(ROSTER, view, 0, ("put", (), "b", VALUE)))
        for entry in (None, ("value", 6), ("name", A), ("page", 1, ())):
            run = wider_run(ROSTER, view, 0, ("put", (), "a", entry))
            self.assertTrue(haste_serves(ROSTER, view, 0, (), "a", entry, run))

    def test_drawn_rows(self):
        """Point 92 (2): None exactly where the deed is let or told, otherwise a run that shows it."""
        found = {}
        for seed in range(150):
            dice = random.Random(62000 + seed)
            roster, row = some_late_sight(dice, dice.randint(3, 30), dice.randint(2, 4), dice.choice((0, 0.05)))
            for node in range(4):
                view = view_of(row, node)
                if not view:
                    continue
                name = tuple(dice.choice(("a", "b", "c")) for _ in range(dice.choice((1, 1, 2))))
                answer = dice.choice((walk_view(view, name, 1)[0], (("nothing",), ())))
                run = wider_run(roster, row, node, ("tell", name, 1, answer))
                right = may_tell(roster, row, node, name, 1) == ("told", answer)
                self.assertIs(run is None, right)
                self.assertTrue(right or slip_serves(roster, row, node, name, 1, answer, run))
                found["tell", right] = found.get(("tell", right), 0) + 1
                for term in [()] + [event[0] for event in view if is_page_put(event)]:
                    label, entry = dice.choice("abc"), dice.choice((None, ("value", 1), ("page", 1, ())))
                    outcome = told(wider_run, roster, row, node, ("put", term, label, entry))
                    may = told(may_put, roster, row, node, term, label)
                    if may[0] == "Refused":
                        self.assertEqual(outcome, may)
                    elif outcome[0] == "Refused":
                        self.assertEqual(outcome[1], entry)
                        plain = entry is None or entry[0] != "page"
                        self.assertTrue(content_of(view, term, label)[1] == entry if plain else len(way_to(view, term, label)) == 6)
                    else:
                        self.assertIs(outcome[1] is None, may[1][0] == "let")
                        if outcome[1] is not None:
                            self.assertTrue(haste_serves(roster, row, node, term, label, entry, outcome[1]))
                            self.assertTrue(is_stale(outcome[1], len(outcome[1]) - 1))
                        found["put", outcome[1] is None] = found.get(("put", outcome[1] is None), 0) + 1
        self.assertGreater(min(found.values()), 30, found)


if __name__ == "__main__":
    unittest.main()
