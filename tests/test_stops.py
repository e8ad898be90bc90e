"""Points 79 to 82: what must be flushed, harms, the runs that show them, and keepers."""

import random
import unittest

from goodtill.finders import may_tell
from goodtill.houses import may_put
from goodtill.journal import left_of
from goodtill.runs import World, check_run, lost_puts
from goodtill.stops import Keeper, harm_of, needed_flush, stop_run, stop_serves
from goodtill.views import check_view, newest_of, view_of
from tests import slow_stops
from tests.build import Rows
from tests.slow_custody import is_kept
from tests.slow_webs import number, pair
from tests.some_houses import TellingPlay, some_clocks, some_sight
from tests.some_rows import in_some_order
from tests.test_slips import most_events
from tests.told import ANYTHING, told

ROSTER = ((1, 1), (1, 2), (2, 3))
VALUE = ("value", 5)
A = ("a",)
TELL = ("tell", A, 0, (VALUE, ()))


def weighty_rows():
    """Node 0 does one deed of each kind that weighs, its numbers 1 to 6, and a tick."""
    rows = Rows()
    rows.start(0)
    rows.put(0, (), "a", VALUE)
    rows.give(0, (), "a", 10, 1)
    rows.do(0, "pass", (0, 0, 2), 2)
    rows.do(0, "swear", (0, 0, 2))
    rows.do(0, "tick")
    rows.do(0, "hand", (), 1)
    return rows


class Needed(unittest.TestCase):
    def test_each_weighty_deed_ahead_of_a_letter(self):
        rows = weighty_rows()
        for many, open_deed in ((1, None), (2, 1), (3, 2), (4, 3), (5, 4), (6, 4), (7, 6)):
            view = rows.events()[:many]
            for flushed in [None] + list(range(many)):
                at = None if flushed is None else (0, 0, flushed)
                expected = None if open_deed is None or (flushed or 0) >= open_deed else (0, 0, open_deed)
                self.assertEqual(needed_flush(ROSTER, view, 0, at, ("send", 3)), expected, (many, flushed))

    def test_tellings_lean_on_puts(self):
        rows = Rows()
        rows.start(0)
        one = rows.put(0, (), "a", ("page", 0, (("b", VALUE), ("c", ("name", ("d",))))))
        two = rows.put(0, (), "d", VALUE)
        three = rows.put(0, one, "e", VALUE)
        rows.give(0, (), "d", 10, 1)
        view = rows.events()
        for name, most, put in ((A, 0, one), (("a", "b"), 0, one), (("a", "c"), 1, two), (("a", "c"), 0, one), (("a", "e"), 0, three),
                                (("a", "q"), 0, one), (("q",), 0, None), (("d",), 0, two), (("d", "x"), 8, two)):
            for flushed in (None, (0, 0, 0), (0, 0, 1), (0, 0, 2), (0, 0, 3), (0, 0, 4)):
                gone = put is not None and flushed is not None and flushed >= put
                deed = ("tell", name, most, (("nothing",), ()))
                self.assertEqual(needed_flush(ROSTER, view, 0, flushed, deed), None if gone else put)
        rows.put(0, (), "d", None)
        self.assertEqual(needed_flush(ROSTER, rows.events(), 0, None, ("tell", ("d",), 0, (VALUE, ()))), (0, 0, 5))

    def test_deeds_of_elder_lives_and_of_others_are_not_open(self):
        rows = weighty_rows()
        rows.start(0, (0, 0, 6))
        self.assertIsNone(needed_flush(ROSTER, rows.events(), 0, (0, 0, 6), ("send", 1)))
        rows.start(1)
        rows.letter(0, 1)
        rows.put(1, (), "b", VALUE)
        rows.letter(1, 0)
        view = rows.events()
        self.assertIsNone(needed_flush(ROSTER, view, 0, (0, 0, 6), ("send", 1)))
        self.assertIsNone(needed_flush(ROSTER, view, 0, (0, 1, 2), ("tell", ("b",), 0, (VALUE, ()))))
        self.assertEqual(needed_flush(ROSTER, view, 1, None, ("tell", ("b",), 0, (VALUE, ()))), (1, 0, 2))

    def test_refusals_in_their_order(self):
        rows = weighty_rows()
        rows.start(0, (0, 0, 6))
        rows.do(0, "tick")
        view = rows.events()
        for deed in ANYTHING + (TELL, ("send", 1)):
            self.assertEqual(told(needed_flush, ROSTER, view, 4, (0, 1, 0), deed), ("Refused", 4))
            for flushed in (None, (0, 0, 5), (0, 1, 2), (0, 2, 0), (1, 1, 0), (1, 0, 6)):
                self.assertEqual(told(needed_flush, ROSTER, view, 0, flushed, deed), ("Refused", flushed))
        for flushed in ((0, 0, 6), (0, 1, 0), (0, 1, 1)):
            for deed in ANYTHING + (("send", 0), ("send",), ("send", 32), ("tick",), ("ask", A, 0), ("put", (), "a", None), ("tell", A, 9, (VALUE, ())),
                                    ["send", 1], ("tell", A, 0), ("tell", A, 0, VALUE)):
                self.assertEqual(told(needed_flush, ROSTER, view, 0, flushed, deed), ("Refused", deed))
                self.assertEqual(told(stop_run, ROSTER, view, 0, flushed, deed), ("Refused", deed))
            self.assertIsNone(needed_flush(ROSTER, view, 0, flushed, ("send", 1)))
            self.assertEqual(told(stop_run, ROSTER, view, 0, flushed, ("send", 1)), ("Refused", ("send", 1)))
        self.assertEqual(told(stop_run, ROSTER, view, 4, None, ("send", 4)), ("Refused", 4))
        self.assertEqual(told(stop_run, ROSTER, view, 0, None, ("send", 0)), ("Refused", None))

    def test_a_life_that_keeps_nothing(self):
        rows = Rows()
        rows.start(0)
        rows.start(0, None)
        rows.put(0, (), "a", VALUE)
        view = rows.events()
        self.assertEqual(needed_flush(ROSTER, view, 0, None, TELL), (0, 1, 1))
        self.assertEqual(told(needed_flush, ROSTER, view, 0, (0, 0, 0), TELL), ("Refused", (0, 0, 0)))

    def test_the_view_of_the_node_alone(self):
        rows = Rows()
        rows.start(0)
        rows.put(0, (), "a", VALUE)
        rows.start(1)
        self.assertEqual(needed_flush(ROSTER, rows.events(), 0, None, TELL), (0, 0, 1))
        self.assertIsNone(needed_flush(ROSTER, rows.events(), 1, None, TELL))


class Harms(unittest.TestCase):
    def base(self):
        rows = Rows()
        rows.start(0)
        rows.put(0, (), "a", VALUE)
        rows.start(1)
        return rows

    def test_runs_without(self):
        rows = self.base()
        rows.letter(0, 1)
        rows.do(1, *TELL)
        rows.do(0, *TELL)
        rows.start(0, (0, 0, 2))
        self.assertIsNone(harm_of(rows.run()))
        self.assertIsNone(harm_of(()))

    def test_stale(self):
        rows = self.base()
        rows.do(1, "tell", A, 0, (("nothing",), ()))
        self.assertEqual(harm_of(rows.run()), ("stale", 3))
        rows = self.base()
        rows.do(0, *TELL)
        rows.put(0, (), "a", None)
        rows.do(0, *TELL)
        self.assertEqual(harm_of(rows.run()), ("stale", 5))

    def test_leaning_on_a_lost_put(self):
        """What is told is so all the same: the lost put took out what never was."""
        rows = self.base()
        rows.put(0, (), "b", VALUE)
        rows.put(0, (), "b", None)
        rows.do(0, "tell", ("b",), 0, (("nothing",), ()))
        self.assertIsNone(harm_of(rows.run()))
        rows.start(0, (0, 0, 1))
        self.assertEqual(harm_of(rows.run()), ("lean", 5))
        rows.row[-1] = ((0, 1, 0), (0, 1), ("start", (0, 0, 2)))
        self.assertEqual(harm_of(rows.run()), ("stale", 5))
        rows.row[-1] = ((0, 1, 0), (0, 1), ("start", (0, 0, 3)))
        self.assertIsNone(harm_of(rows.run()))

    def test_leaning_on_what_made_the_page(self):
        rows = Rows()
        rows.start(0)
        rows.put(0, (), "a", ("page", 0, (("b", ("name", ("c",))),)))
        rows.put(0, (), "c", VALUE)
        rows.do(0, "tell", ("a", "b"), 0, (("far",), (("c",),)))
        rows.start(0, (0, 0, 0))
        self.assertEqual(harm_of(rows.run()), ("stale", 3))
        rows.row[3] = ((0, 0, 3), (0, 1), ("tell", ("a", "b"), 0, (("nothing",), ())))
        self.assertEqual(harm_of(rows.run()), ("lean", 3))

    def test_torn(self):
        rows = self.base()
        rows.letter(0, 1)
        rows.start(0, (0, 0, 0))
        sent = rows.do(0, "send", 1)
        self.assertIsNone(harm_of(rows.run()))
        rows.do(1, "hear", sent)
        self.assertEqual(harm_of(rows.run()), ("torn", 7))

    def test_the_first_one(self):
        rows = self.base()
        rows.do(1, "tell", A, 0, (("nothing",), ()))
        rows.letter(0, 1)
        rows.start(0, (0, 0, 0))
        rows.do(1, "hear", rows.do(0, "send", 1))
        self.assertEqual(harm_of(rows.run()), ("torn", 8))
        rows.row[3] = ((1, 0, 1), (0, 1), TELL)
        self.assertEqual(harm_of(rows.run()), ("stale", 3))

    def test_drawn_runs(self):
        found = {}
        for seed in range(140):
            dice = random.Random(51000 + seed)
            nodes = dice.randint(2, 4)
            run = TellingPlay(dice, some_clocks(dice, nodes), nodes, 0.08, losses=True).grow(dice.randint(4, 34))
            harm = harm_of(run)
            self.assertEqual(harm, slow_stops.harm_of(run), run)
            found[harm and harm[0]] = found.get(harm and harm[0], 0) + 1
        self.assertLessEqual({None, "stale", "torn"}, set(found), found)


class Shown(unittest.TestCase):
    def judged(self, roster, events, node, flushed, deed, run):
        faults = slow_stops.stop_faults(roster, events, node, flushed, deed, run)
        self.assertIs(stop_serves(roster, events, node, flushed, deed, run), not faults)
        return faults

    def base(self):
        rows = Rows()
        rows.start(0)
        rows.put(0, (), "a", VALUE)
        rows.do(0, "tick")
        rows.put(0, (), "b", VALUE)
        rows.do(0, "tick", at=4, now=4)
        return rows

    def told(self, kept, deed=TELL):
        """The view, the deed, and a start that keeps what is told."""
        rows = self.base()
        rows.do(0, *deed)
        if deed[0] == "send":
            rows.start(1)
            rows.do(1, "hear", (0, 0, 5))
        rows.start(0, kept)
        return rows

    def test_tellings(self):
        view = self.base().events()
        for kept, faults in ((None, set()), ((0, 0, 0), set()), ((0, 0, 1), {3}), ((0, 0, 4), {3}), ((0, 0, 5), {3})):
            self.assertEqual(self.judged(ROSTER, view, 0, None, TELL, self.told(kept).run()), faults)
        self.assertEqual(self.judged(ROSTER, view, 0, (0, 0, 0), TELL, self.told(None).run()), {3})
        self.assertEqual(self.judged(ROSTER, view, 0, (0, 0, 0), TELL, self.told((0, 0, 0)).run()), set())
        self.assertEqual(self.judged(ROSTER, view, 0, (0, 0, 1), TELL, self.told((0, 0, 1)).run()), {1})

    def test_letters(self):
        view = self.base().events()
        deed = ("send", 1)

        def heard(kept):
            rows = self.told(kept, deed)
            rows.letter(0, 1)
            return rows

        for flushed, kept, faults in ((None, None, set()), (None, (0, 0, 0), set()), (None, (0, 0, 2), set()), (None, (0, 0, 3), {3}),
                                      ((0, 0, 1), (0, 0, 1), set()), ((0, 0, 1), (0, 0, 2), set()), ((0, 0, 1), (0, 0, 0), {3}),
                                      ((0, 0, 2), (0, 0, 1), {3}), ((0, 0, 2), (0, 0, 2), set()), ((0, 0, 3), (0, 0, 3), {1})):
            self.assertEqual(self.judged(ROSTER, view, 0, flushed, deed, heard(kept).run()), faults, (flushed, kept))
        self.assertEqual(self.judged(ROSTER, view, 0, None, deed, self.told((0, 0, 0), deed).run()), {5})
        rows = self.told((0, 0, 0), deed)
        rows.start(2)
        rows.letter(0, 2)
        self.assertEqual(self.judged(ROSTER, view, 0, None, deed, rows.run()), {5})
        rows.letter(1, 2)
        self.assertEqual(self.judged(ROSTER, view, 0, None, deed, rows.run()), set())

    def test_letters_amid_what_others_do(self):
        """Whoever hears both has seen the deed and the start, not what happened to stand next to them."""
        rows = self.base()
        sent = rows.do(0, "send", 1)
        rows.start(4)
        rows.start(1)
        rows.do(1, "hear", sent)
        rows.start(0, (0, 0, 0))
        rows.start(5)
        rows.letter(0, 1)
        self.assertEqual(self.judged(ROSTER, self.base().events(), 0, None, ("send", 1), rows.run()), set())

    def test_one_thing_turned(self):
        view = self.base().events()
        run = self.told((0, 0, 0)).run()
        self.assertEqual(self.judged(ROSTER, view, 0, None, TELL, run), set())
        self.assertEqual(self.judged(ROSTER, view, 0, None, ("tell", ("b",), 0, (VALUE, ())), run), {2})
        self.assertEqual(self.judged(ROSTER, view[:-1], 0, None, TELL, run), {2})
        self.assertEqual(self.judged(ROSTER, view + (((0, 0, 5), (4, 1), ("tick",)),), 0, None, TELL, run), {2})
        self.assertEqual(self.judged(ROSTER, view, 0, None, TELL, run[:-1]), {3})
        self.assertEqual(self.judged(ROSTER, view, 0, None, TELL, run[:-2] + run[-1:]), {2})
        self.assertEqual(self.judged(ROSTER, view, 0, None, TELL, run[1:]), {1})
        self.assertEqual(self.judged((), view, 1, None, TELL, run), {1})
        self.assertEqual(self.judged(((2, 2),), view, 0, None, TELL, run), {1})

    def test_more_of_the_same_life(self):
        rows = self.base()
        rows.do(0, *TELL)
        rows.do(0, "tick")
        rows.start(0, (0, 0, 0))
        self.assertEqual(self.judged(ROSTER, self.base().events(), 0, None, TELL, rows.run()), {2})

    def test_other_events_beside(self):
        view = self.base().events()
        for deeds, faults in (((("start", None),), set()), ((("start", None), ("tick",), ("ask", A, 0), ("send", 4)), set()),
                              ((("start", None), ("tell", A, 0, (VALUE, ()))), {4})):
            rows = self.told((0, 0, 0))
            for deed in deeds:
                rows.do(3, *deed)
            self.assertEqual(self.judged(ROSTER, view, 0, None, TELL, rows.run()), faults)
        rows = self.told((0, 0, 0))
        rows.put(0, (), "c", VALUE)
        self.assertEqual(self.judged(ROSTER, view, 0, None, TELL, rows.run()), {4})
        rows = self.told((0, 0, 0))
        rows.start(0, (0, 1, 0))
        self.assertEqual(self.judged(ROSTER, view, 0, None, TELL, rows.run()), {3})
        rows = self.told((0, 0, 0))
        rows.start(3, life=1)
        self.assertEqual(self.judged(ROSTER, view, 0, None, TELL, rows.run()), {3})

    def test_a_life_further_on(self):
        rows = self.base()
        rows.do(0, *TELL)
        rows.start(0, (0, 0, 0), life=2)
        self.assertEqual(self.judged(ROSTER, self.base().events(), 0, None, TELL, rows.run()), {3})

    def test_any_value_in_the_place_of_a_run(self):
        view, run = self.base().events(), self.told(None).run()
        for value in ANYTHING + (list(run), run + (None,), run + run, ()):
            self.assertIs(stop_serves(ROSTER, view, 0, None, TELL, value), False)
        for deed in ANYTHING:
            self.assertIs(stop_serves(ROSTER, view, 0, None, deed, run), False)
        self.assertIs(stop_serves(ROSTER, view, 4, None, TELL, run), False)
        self.assertIs(stop_serves(ROSTER, view, 0, (0, 0, 9), TELL, run), False)

    def test_drawn_rows(self):
        shown = refused = 0
        for seed in range(160):
            dice = random.Random(52000 + seed)
            roster, row = some_sight(dice, dice.randint(1, 30), dice.randint(2, 4), dice.choice((0, 0.05)))
            row = in_some_order(dice, row)
            for node in range(4):
                view = view_of(row, node)
                if not view:
                    continue
                life = newest_of(view, node)[1]
                kept = [event for event in view if event[0] == (node, life, 0)][0][2][1]
                marks = [kept, None] + [event[0] for event in view if event[0][:2] == (node, life)] + [(node, life, 99)]
                for _ in range(5):
                    flushed = dice.choice(marks)
                    name = (dice.choice(("a", "b")),) * dice.choice((1, 2))
                    deed = dice.choice((("send", dice.randrange(6)), ("tell", name, 1, (("nothing",), ()))))
                    parts = (row, node, flushed, deed)
                    needed = told(needed_flush, roster, *parts)
                    self.assertEqual(needed, told(slow_stops.needed_flush, *parts), parts)
                    outcome = told(stop_run, roster, *parts)
                    if needed[0] == "Refused" or needed[1] is None:
                        refused += 1
                        self.assertEqual(outcome, needed if needed[0] == "Refused" else ("Refused", deed))
                        continue
                    shown += 1
                    run = outcome[1]
                    self.assertIs(stop_serves(roster, *parts, run), True)
                    self.assertEqual(slow_stops.stop_faults(roster, *parts, run), set())
                    self.assertLessEqual(len(run), most_events(view))
                    self.assertIsNotNone(harm_of(run))
                    if len(run) > 1:
                        at = dice.randrange(len(run))
                        self.judged(roster, *parts, run[:at] + run[at + 1:])
        self.assertGreater(min(shown, refused), 100)


class Keepers(unittest.TestCase):
    def bad(self, keeper, *calls):
        before = (keeper.view(), keeper.cuts())
        for call, *parts in calls:
            self.assertEqual(told(getattr(keeper, call), *parts), ("BadDeed", 0), (call, parts))
            self.assertEqual((keeper.view(), keeper.cuts()), before)

    def test_at_first(self):
        keeper = Keeper(ROSTER, 3)
        self.assertEqual((keeper.view(), keeper.cuts()), ((), (0, 0)))
        self.bad(keeper, ("stop", 0), ("do", ((3, 0, 1), (0, 1), ("tick",)), ()), ("do", ((3, 0, 0), (0, 1), ("start", None)), ()), ("do", None, ()))
        self.bad(keeper, *[("start", value) for value in ANYTHING if value != (0, 1)])
        self.assertEqual(keeper.start((-7, 2)), ((3, 0, 0), (-7, 2), ("start", None)))
        self.assertEqual((keeper.view(), keeper.cuts()), ((((3, 0, 0), (-7, 2), ("start", None)),), (0, 1)))
        self.bad(keeper, ("start", (0, 1)), ("start", (5, 1)))

    def test_lives(self):
        keeper = Keeper(ROSTER, 0)
        start = keeper.start((0, 1))
        self.assertIs(keeper.do(((0, 0, 1), (5, 1), ("put", (), "a", VALUE)), ()), False)
        self.bad(keeper, ("stop", -1), ("stop", 3), ("stop", True), ("stop", None), ("stop", (1, 1)), ("stop", "1"))
        self.assertIsNone(keeper.stop(1))
        self.assertEqual((keeper.view(), keeper.cuts()), ((start,), (1, 1)))
        self.bad(keeper, ("stop", 1), ("do", ((0, 0, 1), (5, 1), ("tick",)), ()), ("start", (49, 10)), ("start", (4, 1)))
        second = keeper.start((5, 1))
        self.assertEqual(second, ((0, 1, 0), (5, 1), ("start", (0, 0, 0))))
        self.assertEqual((keeper.view(), keeper.cuts()), ((start, second), (1, 2)))
        self.bad(keeper, ("do", ((0, 0, 1), (5, 1), ("tick",)), ()), ("do", ((0, 1, 2), (5, 1), ("tick",)), ()))
        keeper.stop(1)
        self.assertEqual(keeper.start((6, 1)), ((0, 2, 0), (6, 1), ("start", (0, 0, 0))))
        keeper.stop(2)
        self.assertEqual(keeper.start((6, 1)), ((0, 3, 0), (6, 1), ("start", (0, 2, 0))))
        self.assertEqual(keeper.cuts(), (2, 3))
        self.bad(keeper, ("stop", 1), ("stop", 4))

    def test_a_stop_that_leaves_nothing(self):
        keeper = Keeper(ROSTER, 2)
        keeper.start((4, 1))
        keeper.stop(0)
        self.assertEqual((keeper.view(), keeper.cuts()), ((), (0, 0)))
        self.bad(keeper, ("start", (3, 1)))
        self.assertEqual(keeper.start((4, 1)), ((2, 1, 0), (4, 1), ("start", None)))

    def letter(self):
        """A letter of node 1 to node 0, of three events."""
        rows = Rows()
        rows.start(1)
        rows.do(1, "tick")
        sent = rows.do(1, "send", 0)
        return rows.events(), sent

    def test_hearings(self):
        letter, sent = self.letter()
        keeper = Keeper(ROSTER, 0)
        start = keeper.start((0, 1))
        hear = ((0, 0, 1), (0, 1), ("hear", sent))
        other = ((9, 0, 0), (0, 1), ("start", None))
        self.bad(keeper, ("do", hear, ()), ("do", hear, letter[:2]), ("do", hear, letter[1:]), ("do", hear, letter + letter[-1:]), ("do", hear, letter[::-1]),
                 ("do", hear, letter + (other,)), ("do", hear, (other,) + letter), ("do", ((0, 0, 1), (0, 1), ("tick",)), letter),
                 ("do", ((0, 0, 1), (0, 1), ("hear", (1, 0, 1))), letter[:2]), ("do", ((0, 0, 1), (0, 1), ("tick",)), (start,)),
                 ("do", hear, ((start[0], (1, 1), start[2]),) + letter))
        self.assertIs(keeper.do(hear, (start,) + letter), False)
        self.assertEqual((keeper.view(), keeper.cuts()), ((start,) + letter + (hear,), (0, 5)))
        again = ((0, 0, 2), (0, 1), ("hear", sent))
        self.assertIs(keeper.do(again, letter), False)
        self.assertIs(keeper.do(((0, 0, 3), (0, 1), ("hear", sent)), ()), False)
        self.assertEqual(keeper.cuts(), (0, 7))

    def test_stops_amid_what_was_heard(self):
        letter, sent = self.letter()
        for many in range(6):
            keeper = Keeper(ROSTER, 0)
            start = keeper.start((0, 1))
            hear = ((0, 0, 1), (0, 1), ("hear", sent))
            keeper.do(hear, letter)
            keeper.stop(many)
            left = () if many == 0 else (start,) + letter + (hear,) if many == 5 else (start,)
            self.assertEqual((keeper.view(), keeper.cuts()), (left, (len(left), len(left))))
            kept = None if many == 0 else (0, 0, 1) if many == 5 else (0, 0, 0)
            self.assertEqual(keeper.start((1, 1))[2], ("start", kept))

    def test_what_cannot_be_done(self):
        keeper = Keeper(ROSTER, 1)
        keeper.start((3, 1))
        here = (1, 0, 1)
        self.bad(keeper, ("do", (here, (2, 1), ("tick",)), ()), ("do", (here, (3, 1), ("send", 1)), ()), ("do", (here, (3, 1), ("put", (), "a", VALUE)), ()),
                 ("do", ((0, 0, 1), (3, 1), ("tick",)), ()), ("do", ((1, 0, 2), (3, 1), ("tick",)), ()), ("do", ((1, 1, 0), (3, 1), ("start", None)), ()),
                 ("do", (here, (3, 1), ("start", None)), ()), ("do", ((1, 1, 0), (3, 1), ("start", (1, 0, 0))), ()), ("do", (here, (3, 1), ("swear", (0, 0, 1))), ()), ("do", (here, (3, 1), ("hear", (5, 0, 0))), ()))
        self.bad(keeper, *[("do", value, ()) for value in ANYTHING])
        self.assertIs(keeper.do((here, (3, 1), ("send", 4)), ()), False)
        self.bad(keeper, ("do", (here, (3, 1), ("tick",)), ()))

    def test_when_they_flush(self):
        keeper = Keeper(ROSTER, 0)
        keeper.start((0, 1))
        deeds = ((("send", 1), False), (TELL, False), (("put", (), "a", VALUE), False), (("tick",), False), (("tell", ("b",), 0, (("far",), ())), False),
                 (TELL, True), (TELL, False), (("give", (), "a", (9, 1), 1), False), (TELL, False), (("ask", A, 0), False), (("send", 1), True), (("send", 1), False),
                 (("put", (), "b", VALUE), False), (("send", 1), True), (("pass", (0, 0, 8), 2), False), (("swear", (0, 0, 8)), False), (("send", 1), True),
                 (("hand", (), 1), False), (TELL, False), (("send", 1), True), (("send", 1), False))
        flushed = 0
        for at, (deed, flushes) in enumerate(deeds, start=1):
            self.assertIs(keeper.do(((0, 0, at), (0, 1), deed), ()), flushes, deed)
            flushed = at if flushes else flushed
            self.assertEqual(keeper.cuts(), (flushed, at + 1))

    def test_a_flush_takes_the_letters_that_were_heard_along(self):
        letter, sent = self.letter()
        keeper = Keeper(ROSTER, 0)
        keeper.start((0, 1))
        keeper.do(((0, 0, 1), (0, 1), ("put", (), "a", VALUE)), ())
        keeper.do(((0, 0, 2), (0, 1), ("hear", sent)), letter)
        self.assertIs(keeper.do(((0, 0, 3), (0, 1), ("send", 1)), ()), True)
        self.assertEqual(keeper.cuts(), (6, 7))

    def test_two_side_by_side(self):
        one, two = Keeper(ROSTER, 0), Keeper(ROSTER, 0)
        one.start((0, 1))
        self.assertEqual((two.view(), two.cuts()), ((), (0, 0)))

    def test_what_holds_of_runs_of_keepers(self):
        """Point 82: such a run is kept; where each put is let and each telling told there is no harm in it."""
        counts = {"stops": 0, "flushes": 0, "tells": 0, "lost": 0}
        for seed in range(130):
            dice = random.Random(53000 + seed)
            self.play(dice, counts)
        self.assertGreater(min(counts.values()), 20, counts)

    def play(self, dice, counts):
        roster = some_clocks(dice, 3)
        keepers = [Keeper(roster, node) for node in range(3)]
        world, now, letters = World(roster), 0, []
        for _ in range(70):
            node = dice.randrange(3)
            keeper = keepers[node]
            now += dice.choice((0, 0, 1))
            reading = self.clock(world, roster, node, now)
            fewest, most = keeper.cuts()
            if not keeper._runs:
                world.add(keeper.start(reading), (now, 1))
                self.assertEqual(check_view(keeper.view()), keeper.view())
                continue
            if dice.random() < 0.07:
                rows, many = keeper.view(), dice.randint(fewest, most)
                keeper.stop(many)
                self.assertEqual(keeper.view(), left_of(rows[:many], node))
                counts["stops"] += 1
                continue
            life, last = newest_of(keeper.view(), node)[1:]
            deed, letter = self.deed(dice, roster, keeper, node, reading, letters)
            event = ((node, life, last + 1), reading, deed)
            outcome = told(keeper.do, event, letter)
            if outcome[0] != "gives":
                continue
            counts["flushes"] += outcome[1]
            counts["tells"] += deed[0] == "tell"
            self.assertEqual(told(world.add, event, (now, 1)), ("gives", None))
            if deed[0] == "send":
                letters.append((event[0], deed[1], keeper.view()))
        run = world.run()
        self.assertTrue(is_kept(run))
        self.assertIsNone(harm_of(run))
        self.assertEqual(check_run(roster, run), run)
        counts["lost"] += len(lost_puts(run))

    def clock(self, world, roster, node, now):
        """What the node's clock shows if it goes as slowly as it can."""
        own = [(event, instant) for event, instant in world.run() if event[0][0] == node]
        if not own:
            return (0, 1)
        event, instant = own[-1]
        return pair(number(event[1]) + (now - number(instant)) / roster[node][1])

    def deed(self, dice, roster, keeper, node, reading, letters):
        seen = keeper.view()
        newest = newest_of(seen, node)
        on = seen + (((node, newest[1], newest[2] + 1), reading, ("tick",)),)
        here = [letter for letter in letters if letter[1] == node]
        kind = dice.choice(("hear", "hear", "send", "put", "put", "give", "give", "tell", "tell", "hand", "swear"))
        if kind == "hear" and here:
            send, _, past = dice.choice(here)
            return ("hear", send), tuple(event for event in past if event not in seen)
        name = dice.choice((A, ("b",), ("a", "b")))
        if kind == "tell":
            right = may_tell(roster, on, node, name, 1)
            return (("tell", name, 1, right[1]) if right[0] == "told" else ("tick",)), ()
        if kind == "put":
            entry = dice.choice((None, VALUE, ("value", 6), ("page", dice.randrange(3), ())))
            right = told(may_put, roster, on, node, (), name[0])
            return (("put", (), name[0], entry) if right[0] == "gives" and right[1][0] == "let" else ("tick",)), ()
        other = dice.choice([one for one in range(3) if one != node])
        gives = [event[0] for event in seen if event[2][0] == "give"]
        if kind == "swear" and gives:
            return ("swear", dice.choice(gives)), ()
        if kind == "give":
            n, d = reading
            return ("give", (), name[0], ((n + 2 * d), d), other), ()
        if kind == "hand" and dice.random() < 0.3:
            return ("hand", (), other), ()
        return ("send", other), ()


if __name__ == "__main__":
    unittest.main()
