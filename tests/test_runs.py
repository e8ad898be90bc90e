"""Points 33 to 36: what is a run, what has been seen, what is so, worlds."""

import random
import unittest
from fractions import Fraction

from goodtill.runs import World, are_alike, check_run, is_stale, lost_puts, seen_by, walk_truth
from goodtill.views import check_view
from tests import slow_runs
from tests.build import Rows
from tests.slow_webs import pair, some_roster
from tests.told import ANYTHING, nested, told

TAIL = (((7, 0, 0), (9, 1), ("start", None)), (100, 1)), (((7, 0, 1), (9, 1), ("send", 0)), (100, 1))


class Faults(unittest.TestCase):
    """Each fault alone, at the place at which it is told."""

    def case(self, roster, ahead, bad, good=()):
        ahead = tuple(ahead)
        self.assertIs(check_run(roster, ahead), ahead)
        for entry in bad:
            run = ahead + (entry,)
            self.assertEqual(told(check_run, roster, run), ("BadRun", len(ahead)), entry)
            self.assertEqual(told(check_run, roster, run + (None,)), ("BadRun", len(ahead)))
            self.assertEqual(told(check_run, roster, run + TAIL), ("BadRun", len(ahead)))
            if isinstance(entry, tuple) and len(entry) == 2:
                self.add_it(roster, ahead, entry, False)
        for entry in good:
            run = ahead + (entry,)
            self.assertIs(told(check_run, roster, run)[1], run)
            more = (((30, 0, 0), (9, 1), ("start", None)), entry[1]), (((30, 0, 1), (9, 1), ("send", 0)), entry[1])
            self.assertEqual(told(check_run, roster, run + more), ("gives", run + more))
            self.add_it(roster, ahead, entry, True)

    def add_it(self, roster, ahead, entry, goes):
        world = World(roster)
        for event, instant in ahead:
            self.assertIsNone(world.add(event, instant))
        self.assertEqual(told(world.add, *entry), ("gives", None) if goes else ("BadDeed", 0))
        self.assertEqual(world.run(), ahead + (entry,) if goes else ahead)

    def test_no_tuple(self):
        for value in ANYTHING:
            if not isinstance(value, tuple):
                self.assertEqual(told(check_run, (), value), ("BadRun", -1))
        self.assertEqual(told(check_run, (), ()), ("gives", ()))
        self.assertEqual(told(check_run, (), [TAIL[0]]), ("BadRun", -1))

    def test_no_event_and_instant(self):
        event, instant = TAIL[0]
        wrong = [value for value in ANYTHING if value != (event, instant)] + [
            (event,), (event, instant, instant), [event, instant], (instant, event), (event, None), (event, 5), (event, (2, 2)),
            (event, (1, 0)), (event, [1, 1]), (event, (True, 1)), (None, instant), (list(event), instant), (event[:2], instant),
            ((event[0], (2, 2), event[2]), instant), ((event[0], event[1], ("tock",)), instant), nested(100), (event, nested(98)),
        ]
        self.case((), (), wrong, [TAIL[0]])
        self.case((), TAIL, wrong, [(((0, 0, 0), (0, 1), ("start", None)), (100, 1))])

    def test_conditions_of_views(self):
        rows = Rows()
        rows.start(0)
        rows.start(1)
        page = rows.put(0, (), "p", ("page", 1, ()))
        give = rows.give(0, (), "a", 5, 1)
        sent = rows.do(0, "send", 1)
        rows.do(0, "tick", at=3, now=3)

        def at(event_id, *deed, reading=3):
            return ((event_id, (reading, 1), deed), (3, 1))

        bad = [at((0, 0, 3), "send", 1), at((0, 0, 6), "tick"), at((2, 0, 1), "tick", reading=0), at((2, 0, 0), "start", (0, 0, 0)),
               at((2, 0, 1), "start", None), at((0, 0, 5), "hear", sent), at((0, 0, 5), "send", 0), at((0, 0, 5), "put", page, "a", None),
               at((0, 0, 5), "put", (), "n", None), at((0, 0, 5), "pass", page, 2), at((0, 0, 5), "tick", reading=2),
               at((0, 0, 5), "hand", (), 0), at((0, 0, 5), "give", give, "a", (1, 1), 1), at((0, 0, 5), "put", (0, 0, 0), "a", None)]
        good = [at((0, 0, 5), "send", 1), at((2, 3, 0), "start", None), at((0, 0, 5), "put", (), "n", ("value", 1)),
                at((0, 0, 5), "pass", give, 2), at((0, 0, 5), "hand", (), 2), at((0, 4, 0), "start", give)]
        self.case((), rows.run(), bad, good)

    def test_what_a_later_start_keeps(self):
        rows = Rows()
        rows.start(0)
        rows.do(0, "tick")
        rows.start(0, (0, 0, 1))
        start = ((0, 2, 0), (0, 1), ("start", (0, 0, 0))), (0, 1)
        self.case((), rows.run(), [start], [(((0, 2, 0), (0, 1), ("start", (0, 0, 1))), (0, 1))])

    def test_ids_ascend(self):
        rows = Rows()
        rows.start(0)
        rows.start(0, (0, 0, 0), life=2)
        bad = [(((0, 0, 1), (0, 1), ("tick",)), (0, 1)), (((0, 1, 0), (0, 1), ("start", (0, 0, 0))), (0, 1)),
               (((0, 0, 1), (0, 1), ("ask", ("a",), 0)), (0, 1))]
        for event, _ in bad:
            self.assertEqual(told(check_view, rows.events() + (event,))[0], "gives")
        self.case((), rows.run(), bad, [(((0, 2, 1), (0, 1), ("tick",)), (0, 1)), (((0, 3, 0), (0, 1), ("start", (0, 2, 0))), (0, 1))])

    def lossy(self):
        """Node 0 puts, writes to 1, and comes back without the put."""
        rows = Rows()
        rows.start(0)
        rows.start(1)
        rows.do(0, "send", 2)
        rows.put(0, (), "a", ("value", 1))
        rows.do(0, "send", 1)
        rows.start(0, (0, 0, 1))
        rows.do(0, "send", 1)
        return rows

    def test_torn_pasts(self):
        rows = self.lossy()
        rows.do(1, "hear", (0, 0, 3))
        run = rows.run()
        hear = (((1, 0, 2), (0, 1), ("hear", (0, 1, 1))), (0, 1))
        self.case((), run, [], [hear, (((1, 0, 2), (0, 1), ("tick",)), (0, 1))])
        torn = run + (hear,)
        bad = [(((1, 0, 3), (0, 1), deed), (0, 1)) for deed in (("tick",), ("send", 0), ("ask", ("a",), 0), ("tell", ("a",), 0, (("nothing",), ())))]
        bad += [(((1, 1, 0), (0, 1), ("start", (1, 0, 2))), (0, 1))]
        good = [(((1, 0, 3), (0, 1), ("hear", (0, 1, 1))), (0, 1)), (((1, 0, 3), (0, 1), ("hear", (0, 0, 3))), (0, 1)),
                (((1, 1, 0), (0, 1), ("start", (1, 0, 1))), (0, 1)), (((1, 1, 0), (0, 1), ("start", None)), (0, 1))]
        self.case((), torn, bad, good)
        self.assertEqual(lost_puts(torn), ((0, 0, 2),))

    def test_torn_by_others(self):
        rows = self.lossy()
        rows.do(1, "hear", (0, 1, 1))
        rows.do(1, "tick")
        rows.do(1, "hear", (0, 0, 3))
        self.case((), rows.run(), [(((1, 0, 4), (0, 1), ("tick",)), (0, 1))], [(((1, 0, 4), (0, 1), ("hear", (0, 1, 1))), (0, 1))])

    def test_torn_by_what_comes_back(self):
        rows = Rows()
        rows.start(0)
        rows.start(1)
        rows.put(0, (), "a", ("value", 1))
        rows.letter(0, 1)
        rows.do(1, "send", 0)
        rows.start(0, (0, 0, 0))
        rows.do(0, "hear", (1, 0, 2))
        bad = [(((0, 1, 2), (0, 1), deed), (0, 1)) for deed in (("tick",), ("send", 1), ("put", (), "a", ("value", 1)))]
        bad += [(((0, 2, 0), (0, 1), ("start", (0, 1, 1))), (0, 1))]
        good = [(((0, 1, 2), (0, 1), ("hear", (1, 0, 2))), (0, 1)), (((0, 2, 0), (0, 1), ("start", (0, 1, 0))), (0, 1))]
        self.case((), rows.run(), bad, good)
        self.assertEqual(lost_puts(rows.run()), ((0, 0, 1),))

    def test_lost_givings_and_swearings_tear_too(self):
        for deed in (("give", (), "a", (1, 1), 1), ("swear", (0, 0, 1)), ("pass", (0, 0, 1), 2), ("hand", (), 1)):
            rows = Rows()
            rows.start(0)
            rows.start(1)
            rows.give(0, (), "b", 3, 1)
            rows.do(0, *deed)
            rows.do(0, "send", 1)
            rows.start(0, (0, 0, 1))
            rows.do(0, "send", 1)
            rows.do(1, "hear", (0, 0, 3))
            rows.do(1, "hear", (0, 1, 1))
            self.case((), rows.run(), [(((1, 0, 3), (0, 1), ("tick",)), (0, 1))], [(((1, 0, 3), (0, 1), ("hear", (0, 1, 1))), (0, 1))])
            self.assertEqual(lost_puts(rows.run()), ())

    def test_instants_do_not_fall(self):
        rows = Rows()
        rows.start(0, now=(7, 2))
        hair = Fraction(1, 10 ** 16)

        def start(instant):
            return (((1, 0, 0), (0, 1), ("start", None)), pair(instant))

        low = Fraction(7, 2)
        self.case((), rows.run(), [start(low - hair), start(Fraction(-10 ** 34))], [start(low), start(low + hair), start(Fraction(10 ** 34))])

    def test_clocks_at_their_bounds(self):
        roster, hair = ((2, 3),), Fraction(1, 10 ** 16)
        rows = Rows()
        rows.start(0, at=1, now=-5)

        def tick(instant, reading=(7, 2)):
            return (((0, 0, 1), reading, ("tick",)), pair(Fraction(instant)))

        good = [tick(0), tick(Fraction(5, 2)), tick(1), tick(-5, (1, 1))]
        bad = [tick(-hair), tick(Fraction(5, 2) + hair), tick(-5), tick(-5 + hair, (1, 1)), tick(-5, (10 ** 16 + 1, 10 ** 16))]
        self.case(roster, rows.run(), bad, good)
        other = tuple((((1,) + event_id[1:], reading, deed), instant) for (event_id, reading, deed), instant in rows.run())
        self.case(roster, other, [((((1, 0, 1)), (7, 2), ("tick",)), (0, 1))], [((((1, 0, 1)), (7, 2), ("tick",)), (-5 * 2 + 5, 2))])

    def test_the_clock_goes_on_over_a_start(self):
        rows = Rows()
        rows.start(0, at=1, now=0)
        rows.do(0, "tick", at=2, now=1)
        start = ((0, 3, 0), (4, 1), ("start", (0, 0, 0)))
        self.case(((1, 2),), rows.run(), [(start, (2, 1)), (start, (6, 1))], [(start, (3, 1)), (start, (5, 1))])


class RandomRuns(unittest.TestCase):
    def test_worlds(self):
        dice = random.Random(3300)
        for _ in range(40):
            roster, run = some_roster(dice), []
            world = World(roster)
            for _ in range(60):
                event, instant = slow_runs.some_entry(dice, roster, run)
                if slow_runs.is_at_fault(roster, run, event, instant):
                    self.assertEqual(told(world.add, event, instant), ("BadDeed", 0))
                    self.assertEqual(told(check_run, roster, tuple(run) + ((event, instant),)), ("BadRun", len(run)))
                else:
                    self.assertIsNone(world.add(event, instant))
                    run.append((event, instant))
            self.assertEqual(world.run(), tuple(run))
            self.assertEqual(told(check_run, roster, tuple(run)), ("gives", tuple(run)))
            for node in range(5):
                self.assertEqual(world.view(node), seen_by(tuple(run), len(run), node))
            self.assertEqual(world.walk(("a", "b"), 3), walk_truth(tuple(run), len(run), ("a", "b"), 3))

    def test_what_has_been_seen_and_what_is_so(self):
        dice = random.Random(3500)
        for _ in range(25):
            roster = some_roster(dice)
            run = slow_runs.some_run(dice, roster, 30)
            row, lost = [event for event, _ in run], slow_runs.lost_ids(run)
            self.assertEqual(lost_puts(run), tuple(sorted(event[0] for event in row if event[0] in lost and event[2][0] == "put")))
            for _ in range(12):
                place, node = dice.randint(0, len(run)), dice.randrange(5)
                own = [event for event in row[:place] if event[0][0] == node]
                ids = slow_runs.full_past(row, own[-1]) if own else ()
                self.assertEqual(seen_by(run, place, node), tuple(event for event in row if event[0] in ids))
                name = tuple(dice.choice("aab") for _ in range(dice.randint(1, 6)))
                most = dice.randint(0, 8)
                self.assertEqual(walk_truth(run, place, name, most), slow_runs.truth(run, place, name, most))
            for place, event in enumerate(row):
                if event[2][0] == "tell":
                    expected = event[2][3] != slow_runs.truth(run, place, event[2][1], event[2][2])
                    self.assertIs(is_stale(run, place), expected)
                else:
                    self.assertEqual(told(is_stale, run, place), ("Refused", place))

    def test_beginnings_of_runs_are_runs(self):
        dice = random.Random(3600)
        roster = ((1, 2), (1, 1), (2, 5))
        run = slow_runs.some_run(dice, roster, 40)
        for many in range(len(run) + 1):
            self.assertEqual(check_run(roster, run[:many]), run[:many])


class Seen(unittest.TestCase):
    def test_what_a_node_has_seen_ahead_of_a_place(self):
        rows = Rows()
        rows.start(0)
        rows.start(1)
        rows.letter(0, 1)
        rows.do(0, "tick")
        run, row = rows.run(), rows.events()
        self.assertEqual([seen_by(run, place, 1) for place in range(6)], [(), (), row[1:2], row[1:2], row[:4], row[:4]])
        self.assertEqual(seen_by(run, 5, 0), (row[0], row[2], row[4]))
        self.assertEqual(seen_by(run, 5, 9), ())
        self.assertEqual(seen_by((), 0, 0), ())

    def test_a_new_life_has_seen_what_it_keeps(self):
        rows = Rows()
        rows.start(0)
        rows.do(0, "tick")
        rows.start(0, (0, 0, 0))
        self.assertEqual(seen_by(rows.run(), 3, 0), (rows.row[0], rows.row[2]))
        self.assertEqual(seen_by(rows.run(), 2, 0), tuple(rows.row[:2]))


class Alike(unittest.TestCase):
    def base(self, more=(), instant=0, entry=("value", 1)):
        rows = Rows()
        if more:
            rows.start(2, now=instant)
        rows.start(0, now=instant)
        rows.start(1)
        rows.put(0, (), "a", entry)
        sent = rows.do(0, "send", 1)
        if more:
            rows.do(0, "tick")
        rows.do(1, "hear", sent)
        return rows.run()

    def test_instants_and_orders_do_not_count(self):
        one, two = self.base(), self.base(more=(1,), instant=9)
        for event_id in ((1, 0, 1), (0, 0, 2), (0, 0, 0), (1, 0, 0)):
            self.assertIs(are_alike(one, two, event_id), True)
            self.assertIs(are_alike(two, one, event_id), True)
        swapped = (one[1], one[0]) + one[2:]
        self.assertIs(are_alike(one, swapped, (1, 0, 1)), True)

    def test_deeds_readings_and_events_count(self):
        one, two = self.base(), self.base(entry=("value", 2))
        self.assertIs(are_alike(one, two, (1, 0, 1)), False)
        self.assertIs(are_alike(one, two, (0, 0, 1)), False)
        self.assertIs(are_alike(one, two, (0, 0, 0)), True)
        self.assertIs(are_alike(one, two, (1, 0, 0)), True)
        late = (((1, 0, 0), (5, 1), ("start", None)), (0, 1)), (((1, 0, 1), (5, 1), ("hear", (0, 0, 2))), (0, 1))
        moved = (one[0], late[0]) + one[2:4] + (late[1],)
        self.assertIs(are_alike(one, moved, (1, 0, 1)), False)
        self.assertIs(are_alike(one, moved, (0, 0, 2)), True)

    def test_ids_that_are_not_in_both(self):
        one, two = self.base(), self.base(more=(1,))
        for event_id in ((2, 0, 0), (0, 0, 3), (5, 5, 5)):
            self.assertEqual(told(are_alike, one, two, event_id), ("Refused", event_id))
            self.assertEqual(told(are_alike, two, one, event_id), ("Refused", event_id))
        self.assertEqual(told(are_alike, (), (), (0, 0, 0)), ("Refused", (0, 0, 0)))


def tree(*entries):
    """A run of node 0 that puts entries on labels of terms: rows (term, label, entry)."""
    rows = Rows()
    rows.start(0)
    for term, label, entry in entries:
        rows.put(0, term, label, entry)
    return rows.run()


class Walks(unittest.TestCase):
    def walk(self, run, name, most=0):
        return walk_truth(run, len(run), name, most)

    def test_each_end(self):
        run = tree(((), "v", ("value", 5)), ((), "p", ("page", 3, (("v", ("value", 6)), ("n", ("name", ("v",)))))), ((0, 0, 2), "w", ("value", 7)))
        cases = ((("v",), ("value", 5)), (("v", "v"), ("nothing",)), (("x",), ("nothing",)), (("x", "y", "z"), ("nothing",)),
                 (("p",), ("page", 3, (0, 0, 2))), (("p", "v"), ("value", 6)), (("p", "w"), ("nothing",)), (("p", "x"), ("nothing",)))
        for name, found in cases:
            if name != ("p", "w"):
                self.assertEqual(self.walk(run[:3], name), (found, ()), name)
        self.assertEqual(self.walk(run[:3], ("p", "n"), 1), (("value", 5), (("v",),)))
        self.assertEqual(self.walk(run[:3], ("p", "n", "x"), 1), (("nothing",), (("v",),)))
        self.assertEqual(self.walk(run[:3], ("p", "n"), 0), (("far",), (("v",),)))

    def test_from_no_other_name_to_eight(self):
        labels = "abcdefghij"
        run = tree(*[((), one, ("name", (two,))) for one, two in zip(labels, labels[1:])], ((), "j", ("value", 1)))
        for most in range(9):
            names = tuple((label,) for label in labels[1:])
            self.assertEqual(self.walk(run, ("a",), most), (("far",), names[:most + 1]))
            self.assertEqual(self.walk(run, (labels[9 - most],), most), (("value", 1), names[9 - most:]))
        round_and_round = tree(((), "a", ("name", ("a",))))
        for most in range(9):
            self.assertEqual(self.walk(round_and_round, ("a",), most), (("far",), (("a",),) * (most + 1)))

    def test_names_of_six_labels_and_longer_ones(self):
        run = tree(((), "a", ("name", ("x", "y", "z"))), ((), "b", ("name", ("x",) * 6)))
        name = (("x", "y", "z"),)
        self.assertEqual(self.walk(run, ("a", "p", "q", "r"), 1), (("nothing",), name))
        self.assertEqual(self.walk(run, ("a", "p", "q", "r", "s"), 1), (("long",), name))
        self.assertEqual(self.walk(run, ("a", "p", "q", "r", "s"), 0), (("far",), name))
        self.assertEqual(self.walk(run, ("b",), 1), (("nothing",), (("x",) * 6,)))
        self.assertEqual(self.walk(run, ("b", "x"), 1), (("long",), (("x",) * 6,)))

    def test_five_pages_deep(self):
        entries, term = [], ()
        for k in range(5):
            entries.append((term, "p", ("page", 0, ())))
            term = (0, 0, k + 1)
        run = tree(*entries, (term, "v", ("value", 9)))
        self.assertEqual(self.walk(run, ("p",) * 5 + ("v",)), (("value", 9), ()))
        self.assertEqual(self.walk(run, ("p",) * 5), (("page", 0, (0, 0, 5)), ()))
        self.assertEqual(self.walk(run, ("p",) * 6), (("nothing",), ()))

    def test_a_page_put_anew_is_another_page(self):
        page = ("page", 0, (("f", ("value", 1)),))
        run = tree(((), "p", page), ((0, 0, 1), "v", ("value", 2)), ((), "p", page), ((0, 0, 1), "f", None))
        self.assertEqual(walk_truth(run, 3, ("p", "v"), 0), (("value", 2), ()))
        self.assertEqual(walk_truth(run, 4, ("p", "v"), 0), (("nothing",), ()))
        self.assertEqual(walk_truth(run, 5, ("p", "f"), 0), (("value", 1), ()))
        self.assertEqual(walk_truth(run, 5, ("p",), 0), (("page", 0, (0, 0, 3)), ()))

    def test_places(self):
        run = tree(((), "a", ("value", 1)), ((), "a", None), ((), "a", ("value", 2)))
        answers = [walk_truth(run, place, ("a",), 0)[0] for place in range(5)]
        self.assertEqual(answers, [("nothing",), ("nothing",), ("value", 1), ("nothing",), ("value", 2)])
        self.assertEqual(walk_truth((), 0, ("a",), 0), (("nothing",), ()))


class Lost(unittest.TestCase):
    def test_lost_puts_and_the_pages_that_they_made(self):
        rows = Rows()
        rows.start(0)
        page = rows.put(0, (), "p", ("page", 0, (("v", ("value", 1)),)))
        rows.put(0, page, "w", ("value", 2))
        run = rows.run()
        self.assertEqual(lost_puts(run), ())
        self.assertEqual(walk_truth(run, 3, ("p", "v"), 0), (("value", 1), ()))
        rows.start(0, page)
        run = rows.run()
        self.assertEqual(lost_puts(run), ((0, 0, 2),))
        self.assertEqual(walk_truth(run, 3, ("p", "w"), 0), (("nothing",), ()))
        self.assertEqual(walk_truth(run, 2, ("p", "v"), 0), (("value", 1), ()))

    def test_lost_with_its_page(self):
        rows = Rows()
        rows.start(0)
        rows.put(0, (), "a", ("value", 3))
        page = rows.put(0, (), "a", ("page", 0, (("v", ("value", 1)),)))
        rows.put(0, page, "w", ("value", 2))
        rows.start(0, (0, 0, 1))
        run = rows.run()
        self.assertEqual(lost_puts(run), ((0, 0, 2), (0, 0, 3)))
        for place in (2, 3, 4, 5):
            self.assertEqual(walk_truth(run, place, ("a",), 0), (("value", 3), ()))
            self.assertEqual(walk_truth(run, place, ("a", "v"), 0), (("nothing",), ()))
        self.assertEqual(walk_truth(run[:4], 4, ("a", "w"), 0), (("value", 2), ()))

    def test_lost_by_any_later_start(self):
        rows = Rows()
        rows.start(0)
        rows.put(0, (), "a", ("value", 1))
        rows.start(0, (0, 0, 1))
        rows.put(0, (), "b", ("value", 2))
        rows.start(0, (0, 1, 0))
        rows.start(0, (0, 1, 0), life=5)
        run = rows.run()
        self.assertEqual(lost_puts(run), ((0, 1, 1),))
        self.assertEqual(lost_puts(run[:4]), ())
        self.assertEqual(walk_truth(run, 4, ("b",), 0), (("nothing",), ()))
        self.assertEqual(walk_truth(run, 4, ("a",), 0), (("value", 1), ()))

    def test_starts_that_keep_nothing(self):
        rows = Rows()
        rows.start(0)
        rows.put(0, (), "a", ("value", 1))
        rows.put(0, (), "b", ("value", 1))
        rows.start(0, None, life=4)
        self.assertEqual(lost_puts(rows.run()), ((0, 0, 1), (0, 0, 2)))
        self.assertEqual(lost_puts(()), ())

    def test_others_that_heard_of_it_lose_nothing(self):
        rows = Rows()
        rows.start(0)
        rows.start(1)
        rows.do(0, "hand", (), 1)
        rows.letter(0, 1)
        rows.put(1, (), "a", ("value", 1))
        rows.start(0, (0, 0, 0))
        run = rows.run()
        self.assertEqual(lost_puts(run), ())
        self.assertEqual(walk_truth(run, len(run), ("a",), 0), (("value", 1), ()))


class Stale(unittest.TestCase):
    def test_stale_and_true_answers(self):
        rows = Rows()
        rows.start(0)
        five = (("value", 5), ())
        rows.do(0, "tell", ("a",), 0, five)
        rows.put(0, (), "a", ("value", 5))
        rows.do(0, "tell", ("a",), 0, five)
        rows.do(0, "tell", ("a",), 0, (("value", 6), ()))
        rows.do(0, "tell", ("a",), 0, (("value", 5), (("a",),)))
        rows.do(0, "tell", ("a", "b"), 8, (("nothing",), ()))
        rows.put(0, (), "b", ("name", ("a",)))
        rows.do(0, "tell", ("b",), 1, (("value", 5), (("a",),)))
        rows.do(0, "tell", ("b",), 0, (("value", 5), (("a",),)))
        rows.do(0, "tell", ("b",), 0, (("far",), (("a",),)))
        rows.put(0, (), "a", None)
        rows.do(0, "tell", ("a",), 0, five)
        run = rows.run()
        found = {place: is_stale(run, place) for place in range(len(run)) if run[place][0][2][0] == "tell"}
        self.assertEqual(found, {1: True, 3: False, 4: True, 5: True, 6: False, 8: False, 9: True, 10: False, 12: True})

    def test_a_start_behind_the_telling_counts(self):
        rows = Rows()
        rows.start(0)
        rows.put(0, (), "a", ("value", 5))
        rows.do(0, "tell", ("a",), 0, (("value", 5), ()))
        self.assertIs(is_stale(rows.run(), 2), False)
        rows.start(0, (0, 0, 0))
        self.assertIs(is_stale(rows.run(), 2), True)

    def test_no_telling_there(self):
        run = tree(((), "a", ("value", 5)))
        for place in (0, 1, 2, 10 ** 9):
            self.assertEqual(told(is_stale, run, place), ("Refused", place))
        self.assertEqual(told(is_stale, (), 0), ("Refused", 0))


class Worlds(unittest.TestCase):
    def test_an_entry_that_is_refused_changes_nothing(self):
        world = World(((1, 2),))
        rows = Rows()
        rows.start(0)
        rows.put(0, (), "a", ("value", 5))
        for event, instant in rows.run():
            world.add(event, instant)
        before = world.run(), world.view(0), world.walk(("a",), 0)
        for event in ANYTHING + (rows.row[0], rows.row[1], ((0, 0, 2), (9, 1), ("tick",)), ((1, 0, 1), (0, 1), ("tick",))):
            for instant in ((0, 1), (-1, 1), None, 0, (2, 2), [0, 1]):
                self.assertEqual(told(world.add, event, instant), ("BadDeed", 0))
        self.assertEqual((world.run(), world.view(0), world.walk(("a",), 0)), before)
        self.assertIsNone(world.add(event=((0, 0, 2), (9, 1), ("tick",)), instant=(18, 1)))
        self.assertEqual(before[0], rows.run())

    def test_a_view_gets_nothing_without_a_hearing(self):
        world = World(())
        world.add(((1, 0, 0), (0, 1), ("start", None)), (0, 1))
        for number in range(5):
            deed = ("start", None) if number == 0 else ("send", 1)
            world.add(((0, 0, number), (0, 1), deed), (0, 1))
            self.assertEqual(world.view(1), (((1, 0, 0), (0, 1), ("start", None)),))
        world.add(((1, 0, 1), (0, 1), ("tick",)), (0, 1))
        self.assertEqual(len(world.view(1)), 2)
        world.add(((1, 0, 2), (0, 1), ("hear", (0, 0, 3))), (0, 1))
        self.assertEqual(len(world.view(1)), 7)
        self.assertEqual(world.view(7), ())

    def test_an_empty_world(self):
        world = World(((3, 5),) * 32)
        self.assertEqual((world.run(), world.view(0), world.walk(("a", "b"), 8)), ((), (), (("nothing",), ())))

    def test_worlds_do_not_share(self):
        one, two = World(()), World(())
        one.add(((0, 0, 0), (0, 1), ("start", None)), (0, 1))
        self.assertEqual(two.run(), ())


if __name__ == "__main__":
    unittest.main()
