"""Points 50 to 52 and 54: certain of a place, what may be told, for how long."""

import random
import unittest
from fractions import Fraction

from goodtill.finders import good_ticks, may_tell, why_certain
from goodtill.fits import earliest_fit
from goodtill.promises import does_stand, gives_on, has_sworn, holders_of, ticks_left
from goodtill.tree import is_fast, walk_view
from goodtill.views import check_view, common_view, newest_of, view_of
from tests.build import Rows
from tests.slow_webs import bounds, number, pair
from tests.some_houses import LABELS, some_sight
from tests.told import told


def service(*deeds):
    """Node 1 asks at its 0; house 0 puts and gives at its 0, as told; node 1 hears at its 0."""
    rows = Rows()
    rows.start(0)
    rows.start(1)
    rows.letter(1, 0)
    for deed in deeds:
        rows.do(0, *deed)
    rows.letter(0, 1)
    return rows


def give(label, end, to=1, term=()):
    return ("give", term, label, (end, 1), to)


A, B = ("put", (), "a", ("value", 5)), ("put", (), "b", ("value", 6))


class Certain(unittest.TestCase):
    def test_own_pages(self):
        rows = service(A, give("a", 9))
        row = rows.events()
        self.assertEqual(why_certain((), row, 0, (), "a"), ("own",))
        self.assertEqual(why_certain((), row, 0, (), "zz"), ("own",))
        self.assertEqual(why_certain((), row, 1, (), "a"), ("promise", (0, 0, 3)))
        self.assertIsNone(why_certain((), row, 1, (), "b"))

    def test_errors(self):
        row = service(A, give("a", 9)).events()
        for wrong in ((0, 0, 2), (0, 0, 3), (7, 7, 7)):
            self.assertEqual(told(why_certain, (), row, 1, wrong, "a"), ("Refused", wrong))
            self.assertEqual(told(why_certain, (), row, 2, wrong, "a"), ("Refused", 2))
        for function in (may_tell, good_ticks):
            self.assertEqual(told(function, (), row, 2, ("a",), 0), ("Refused", 2))
            self.assertEqual(told(function, (), (), 0, ("a",), 0), ("Refused", 0))

    def test_the_longest_and_of_several_the_least(self):
        row = service(A, give("a", 7), give("a", 9), give("a", 9), give("a", 8)).events()
        self.assertEqual(why_certain((), row, 1, (), "a"), ("promise", (0, 0, 4)))
        row = service(A, give("b", 9), B, give("a", 9), give("b", 8), give("ab", 7)).events()
        self.assertEqual(why_certain((), row, 1, (), "b"), ("promise", (0, 0, 6)))
        self.assertEqual(why_certain((), row, 1, (), "c"), ("promise", (0, 0, 3)))
        self.assertEqual(why_certain((), row, 1, (), "ab"), ("promise", (0, 0, 3)))

    def test_the_same_ticks_of_several_givers(self):
        rows = Rows()
        for node in range(3):
            rows.start(node)
        rows.letter(1, 0)
        rows.letter(1, 2)
        high = rows.give(0, (), "a", 9, 1)
        rows.do(0, "hand", (), 2)
        rows.letter(0, 2)
        rows.letter(0, 1)
        low = rows.give(2, (), "a", 9, 1)
        rows.letter(2, 1)
        row = rows.events()
        self.assertEqual([ticks_left((), row, 1, one) for one in (high, low)], [(9, 1), (9, 1)])
        self.assertEqual(why_certain((), row, 1, (), "a"), ("promise", min(high, low)))
        self.assertEqual(why_certain(((1, 1), (1, 1), (2, 2)), row, 1, (), "a"), ("promise", low))

    def test_a_promise_of_ones_own_says_nothing_to_oneself(self):
        rows = service(give("a", 9))
        rows.do(0, "hand", (), 1)
        rows.do(0, "send", 1)
        self.assertIsNone(why_certain((), rows.events(), 0, (), "a"))

    def test_who_is_no_holder(self):
        rows = service(A, give("a", 9, to=2))
        self.assertIsNone(why_certain((), rows.events(), 1, (), "a"))
        rows.do(0, "pass", (0, 0, 3), 1)
        self.assertIsNone(why_certain((), rows.events(), 1, (), "a"))
        rows.letter(0, 1)
        self.assertEqual(why_certain((), rows.events(), 1, (), "a"), ("promise", (0, 0, 3)))

    def test_sworn_off_and_seen_by_others_or_not(self):
        rows = service(A, give("a", 9), give("a", 8))
        rows.do(1, "swear", (0, 0, 3))
        self.assertEqual(why_certain((), rows.events(), 1, (), "a"), ("promise", (0, 0, 3)))
        rows.do(1, "tick")
        self.assertEqual(why_certain((), rows.events(), 1, (), "a"), ("promise", (0, 0, 3)))
        rows.do(1, "send", 2)
        self.assertEqual(why_certain((), rows.events(), 1, (), "a"), ("promise", (0, 0, 4)))
        rows.do(1, "swear", (0, 0, 4))
        self.assertEqual(why_certain((), rows.events(), 1, (), "a"), ("promise", (0, 0, 4)))
        rows.start(1, (1, 0, 6))
        self.assertIsNone(why_certain((), rows.events(), 1, (), "a"))

    def test_sworn_off_by_others(self):
        rows = service(A, give("a", 9))
        rows.do(0, "swear", (0, 0, 3))
        rows.letter(0, 1)
        self.assertEqual(why_certain((), rows.events(), 1, (), "a"), ("promise", (0, 0, 3)))

    def test_a_put_behind_it(self):
        rows = service(A, give("a", 9), ("put", (), "a", None), give("a", 5))
        self.assertEqual(why_certain((), rows.events(), 1, (), "a"), ("promise", (0, 0, 5)))


class Telling(unittest.TestCase):
    def rows(self):
        page = ("page", 0, (("x", ("value", 1)),))
        return service(A, ("put", (), "n", ("name", ("p", "x"))), ("put", (), "p", page), give("n", 9), give("p", 7),
                       give("x", 5, term=(0, 0, 4)), give("a", 3))

    def test_what_may_be_told(self):
        row, one = self.rows().events(), (0, 0, 4)
        self.assertEqual(may_tell((), row, 1, ("n",), 1), ("told", (("value", 1), (("p", "x"),))))
        self.assertEqual(may_tell((), row, 1, ("n",), 0), ("told", (("far",), (("p", "x"),))))
        self.assertEqual(may_tell((), row, 1, ("p",), 0), ("told", (("page", 0, one), ())))
        self.assertEqual(may_tell((), row, 1, ("a", "b"), 0), ("told", (("nothing",), ())))
        self.assertEqual(may_tell((), row, 1, ("p", "y"), 0), ("not", one, "y"))
        self.assertEqual(may_tell((), row, 1, ("b",), 0), ("not", (), "b"))
        self.assertEqual(may_tell((), row, 1, ("n", "a", "a", "a", "a", "a"), 8), ("told", (("long",), (("p", "x"),))))
        self.assertEqual(may_tell((), row, 0, ("b",), 0), ("told", (("nothing",), ())))

    def test_the_first_place_that_may_not(self):
        rows = self.rows()
        for reading, expected in ((4, "told"), (5, ("not", (0, 0, 4), "x")), (7, ("not", (), "p")), (9, ("not", (), "n"))):
            found = may_tell((), rows.events() + (rows.event(1, "tick", at=reading),), 1, ("n",), 1)
            self.assertEqual(found if expected != "told" else found[0], expected)

    def test_for_how_long(self):
        rows = self.rows()
        row = rows.events()
        self.assertEqual([good_ticks((), row, 1, name, 1) for name in (("n",), ("p",), ("p", "x"), ("a",))], [(5, 1), (7, 1), (5, 1), (3, 1)])
        self.assertEqual(good_ticks((), row, 1, ("n",), 0), (9, 1))
        self.assertEqual(good_ticks(((1, 1), (1, 3)), row, 1, ("n",), 1), (5, 3))
        self.assertIsNone(good_ticks((), row, 0, ("n",), 1))
        self.assertIsNone(good_ticks((), row, 0, ("q",), 1))
        self.assertEqual(told(good_ticks, (), row, 1, ("b",), 1), ("Refused", ("b",)))

    def test_own_pages_and_others(self):
        rows = service(("put", (), "p", ("page", 1, ())), give("p", 7))
        row = rows.events()
        self.assertEqual(good_ticks((), row, 1, ("p", "x"), 0), (7, 1))
        self.assertEqual(may_tell((), row, 1, ("p", "x"), 0), ("told", (("nothing",), ())))
        self.assertEqual(may_tell((), row, 0, ("p", "x"), 0), ("not", (0, 0, 2), "x"))

    def test_just_up_to_it_and_beyond(self):
        rows = self.rows()
        for roster in ((), ((2, 3), (1, 2))):
            left = number(good_ticks(roster, rows.events(), 1, ("n",), 1))
            for more, may in ((left - Fraction(1, 10 ** 9), True), (left, False), (left + Fraction(1, 10 ** 9), False)):
                row = rows.events() + (rows.event(1, "tick", at=pair(more)),)
                self.assertIs(may_tell(roster, row, 1, ("n",), 1)[0] == "told", may)

    def test_a_tick_takes_and_an_answer_gives_again(self):
        rows = service(A, give("a", 3))
        rows.do(1, "tick", at=3, now=3)
        self.assertEqual(may_tell((), rows.events(), 1, ("a",), 0), ("not", (), "a"))
        rows.letter(1, 0, at=3)
        rows.give(0, (), "a", 6, 1)
        rows.letter(0, 1, at=3)
        self.assertEqual(good_ticks((), rows.events(), 1, ("a",), 0), (3, 1))


class ItHolds(unittest.TestCase):
    def views(self, many, seed):
        for index in range(many):
            dice = random.Random(seed + index)
            roster, row = some_sight(dice, dice.randint(10, 45), dice.randint(2, 4), dice.choice((0, 0, 0.03)))
            for node in range(4):
                view = view_of(row, node)
                if view:
                    yield dice, roster, node, view

    def test_a_tick_behind(self):
        tried = 0
        for dice, roster, node, view in self.views(120, 5200):
            (_, life, count), reading, _ = [event for event in view if event[0] == newest_of(view, node)][0]
            for _ in range(6):
                name = tuple(dice.choice(LABELS) for _ in range(dice.choice((1, 1, 2))))
                found = may_tell(roster, view, node, name, 1)
                if found[0] == "told":
                    left = good_ticks(roster, view, node, name, 1)
                    tried += left is not None
                    for more in (Fraction(1, 5), Fraction(3)) + ((number(left), number(left) * Fraction(99, 100)) if left else ()):
                        tick = ((node, life, count + 1), pair(number(reading) + more), ("tick",))
                        later = may_tell(roster, view + (tick,), node, name, 1)
                        self.assertEqual(later == found, left is None or number(left) > more)
        self.assertGreater(tried, 30)

    def test_one_fit_in_which_all_promises_are_over(self):
        tried = 0
        for _, roster, node, view in self.views(150, 5400):
            fit = earliest_fit(roster, view, newest_of(view, node), (10 ** 12, 1))
            at = {event[0]: (number(event[1]), number(instant)) for event, instant in zip(view, fit)}
            ends = {event[0]: number(event[2][3]) for event in view if event[2][0] == "give"}
            seen = common_view(view, node)
            for label in LABELS:
                if is_fast(view, node, ()) or why_certain(roster, view, node, (), label) is not None:
                    continue
                for one in gives_on(view, (), label):
                    held = one[0] != node and node in holders_of(view, one)
                    sworn = any(event[2] == ("swear", one) and event[0][0] == node for event in seen)
                    if held and not sworn:
                        tried += 1
                        reading, instant = at[newest_of(view, one[0])]
                        self.assertLessEqual(instant + max(0, ends[one] - reading) * bounds(roster, one[0])[0], 0)
        self.assertGreater(tried, 100)

    def test_no_place_without_a_reason(self):
        for _, roster, node, view in self.views(60, 5600):
            for label in LABELS:
                why = why_certain(roster, view, node, (), label)
                answer, way = walk_view(view, (label,), 0)
                self.assertEqual(may_tell(roster, view, node, (label,), 0)[0] == "told",
                                 all(why_certain(roster, view, node, *place) is not None for place in way))
                if why is not None and why[0] == "promise":
                    self.assertIs(does_stand(roster, view, node, why[1]), True)
                    self.assertIn(why[1], gives_on(view, (), label))
                    self.assertIs(has_sworn(common_view(view, node), why[1], node) if why[1] in [event[0] for event in common_view(view, node)] else False, False)

    def test_views_are_views(self):
        for _, _, _, view in self.views(5, 5700):
            self.assertIs(check_view(view), view)


if __name__ == "__main__":
    unittest.main()
