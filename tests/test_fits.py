"""Points 29 to 32: instants, earliest and latest fits, mixed fits, wishes."""

import unittest
from fractions import Fraction

from goodtill.fits import earliest_fit, fit_fault, latest_fit, met_wishes, mixed_fit
from tests import slow_webs
from tests.build import Rows
from tests.slow_webs import number, pair
from tests.some_rows import rows_with_clocks
from tests.test_webs import two_letters
from tests.told import told


def fitting_rows(seed, many):
    for dice, roster, row in rows_with_clocks(seed, many):
        far = slow_webs.ways(roster, row)
        if far is not None:
            yield dice, roster, row, far


def first_fault(roster, row, instants):
    for at in range(len(row)):
        if not slow_webs.is_fit(roster, row[: at + 1], instants[: at + 1]):
            return at
    return None


class Instants(unittest.TestCase):
    def test_random_instants(self):
        faults = set()
        for dice, roster, row, _ in fitting_rows(2900, 200):
            instants = list(earliest_fit(roster, row, dice.choice(row)[0], (dice.randint(0, 9), 1)))
            self.assertIsNone(fit_fault(roster, row, tuple(instants)))
            for _ in range(dice.randint(1, 3)):
                at = dice.randrange(len(row))
                instants[at] = pair(number(instants[at]) + Fraction(dice.randint(-3, 3), dice.choice((1, 3, 10 ** 12))))
            expected = first_fault(roster, row, instants)
            faults.add(expected)
            self.assertEqual(fit_fault(roster, row, tuple(instants)), expected)
        self.assertGreater(len(faults), 6)

    def test_just_at_a_bound_and_a_hair_beyond(self):
        roster, hair = ((2, 3), (1, 1)), Fraction(1, 10 ** 16)
        rows = Rows()
        rows.start(0, at=1)
        sent = rows.do(0, "send", 1, at=(5, 2))
        rows.start(1)
        rows.do(1, "hear", sent)
        row = rows.events()
        for apart, fits in ((3, True), (3 - hair, False), (Fraction(9, 2), True), (Fraction(9, 2) + hair, False), (4, True)):
            instants = ((-7, 1), pair(apart - 7), (100, 1), (100, 1))
            self.assertEqual(fit_fault(roster, row, instants), None if fits else 1)
        for heard, place in ((Fraction(-4), None), (Fraction(-4) - hair, 3), (Fraction(-4) + hair, None)):
            instants = ((-7, 1), (-4, 1), pair(heard), pair(heard))
            self.assertEqual(fit_fault(roster, row, instants), place)

    def test_events_of_elder_lives_between_neighbours(self):
        rows = Rows()
        rows.start(0)
        rows.start(0, (0, 0, 0), at=4)
        rows.do(0, "tick", life=0, at=3)
        row, roster = rows.events(), ((1, 2),)
        self.assertIsNone(fit_fault(roster, row, ((0, 1), (7, 1), (6, 1))))
        self.assertEqual(fit_fault(roster, row, ((0, 1), (7, 1), (13, 2))), 2)
        self.assertEqual(fit_fault(roster, row, ((0, 1), (7, 1), (4, 1))), 2)
        self.assertEqual(fit_fault(roster, row, ((0, 1), (9, 1), (6, 1))), 1)

    def test_no_events(self):
        self.assertIsNone(fit_fault((), (), ()))
        self.assertIsNone(fit_fault((), two_letters()[:1], ((-10 ** 34, 10 ** 16 - 1),)))


class Bounds(unittest.TestCase):
    def test_earliest_fits(self):
        far_back = 0
        for dice, roster, row, far in fitting_rows(3000, 200):
            event_id, back = dice.choice(row)[0], pair(Fraction(dice.choice((0, 0, 0, 1, 10 ** 4)), dice.choice((1, 7, 9973))))
            instants = earliest_fit(roster, row, event_id, back)
            self.assertTrue(slow_webs.is_fit(roster, row, instants))
            for event, instant in zip(row, instants):
                way = far[event_id, event[0]]
                if way is None:
                    far_back += 1
                    self.assertLessEqual(number(instant), -number(back))
                else:
                    self.assertEqual(instant, pair(way))
        self.assertGreater(far_back, 100)

    def test_latest_fits(self):
        told_both = set()
        for dice, roster, row, far in fitting_rows(3100, 200):
            event_id = dice.choice(row)[0]
            without = [event[0] for event in row if far[event[0], event_id] is None]
            told_both.add(bool(without))
            if without:
                self.assertEqual(told(latest_fit, roster, row, event_id), ("Refused", without[0]))
            else:
                instants = latest_fit(roster, row, event_id)
                self.assertEqual(instants, tuple(pair(-far[event[0], event_id]) for event in row))
                self.assertTrue(slow_webs.is_fit(roster, row, instants))
        self.assertEqual(told_both, {True, False})

    def test_far_back(self):
        row = two_letters()[:4]
        instants = earliest_fit((), row, (1, 0, 1), (10 ** 20, 9973))
        self.assertEqual(instants[1], (0, 1))
        self.assertEqual(instants[3], (0, 1))
        self.assertLessEqual(number(instants[0]), -Fraction(10 ** 20, 9973))
        self.assertIsNone(fit_fault((), row, instants))

    def test_no_further_back_than_the_letters_ask(self):
        roster, row = ((1, 2), (1, 1)), two_letters()
        for many in range(1, 7):
            for event in row[:many]:
                instants = earliest_fit(roster, row[:many], event[0], (0, 1))
                self.assertIsNone(fit_fault(roster, row[:many], instants))
        rows = Rows()
        rows.start(0)
        sent = rows.do(0, "send", 1)
        rows.start(1, at=3)
        rows.do(1, "hear", sent, at=5)
        rows.do(1, "tick", at=9)
        for back in ((0, 1), (3, 1), (4, 1), (5, 1)):
            instants = earliest_fit((), rows.events(), (1, 0, 2), back)
            self.assertIsNone(fit_fault((), rows.events(), instants))
            self.assertEqual(instants[2:], ((-6, 1), (-4, 1), (0, 1)))

    def test_unknown_ids(self):
        row = two_letters()
        for event_id in ((0, 0, 3), (7, 0, 0)):
            self.assertEqual(told(earliest_fit, (), row, event_id, (0, 1)), ("Refused", event_id))
            self.assertEqual(told(latest_fit, (), row, event_id), ("Refused", event_id))
        self.assertEqual(told(latest_fit, (), row[:4], (5, 0, 0)), ("Refused", (5, 0, 0)))
        self.assertEqual(told(latest_fit, (), row[:4], (0, 0, 0)), ("Refused", (1, 0, 0)))


class Mixed(unittest.TestCase):
    def test_what_lies_between(self):
        one, two = ((0, 1), (1, 2), (-3, 1)), ((4, 1), (1, 3), (-3, 1))
        self.assertEqual(mixed_fit(one, two, (0, 1)), one)
        self.assertEqual(mixed_fit(one, two, (1, 1)), two)
        self.assertEqual(mixed_fit(one, two, (1, 4)), ((1, 1), (11, 24), (-3, 1)))
        self.assertEqual(mixed_fit((), (), (1, 2)), ())

    def test_mixed_fits_are_fits(self):
        for dice, roster, row, _ in fitting_rows(3200, 80):
            one, two = (earliest_fit(roster, row, dice.choice(row)[0], (dice.randint(0, 9), 1)) for _ in range(2))
            part = Fraction(dice.randint(0, 10 ** 4), 10 ** 4)
            mixed = mixed_fit(one, two, pair(part))
            self.assertTrue(slow_webs.is_fit(roster, row, mixed))
            for s, t, u in zip(one, two, mixed):
                self.assertEqual(number(u), number(s) + part * (number(t) - number(s)))


def can_be_met(row, far, wishes):
    """Whether all wishes can be met, one edge more after another."""
    far, ids = dict(far), [event[0] for event in row]
    for x, y, weight in wishes:
        if far[y, x] is not None and far[y, x] + weight > 0:
            return False
        elder = dict(far)
        for p in ids:
            for q in ids:
                if elder[p, x] is not None and elder[y, q] is not None:
                    through = elder[p, x] + weight + elder[y, q]
                    if far[p, q] is None or through > far[p, q]:
                        far[p, q] = through
    return True


class Wishes(unittest.TestCase):
    def test_random_wishes(self):
        met = {True: 0, False: 0}
        for dice, roster, row, far in fitting_rows(3300, 250):
            wishes = []
            for _ in range(dice.randint(0, 5)):
                weight = Fraction(dice.randint(-6, 3), dice.choice((1, 2, 9)))
                wishes.append((dice.choice(row)[0], dice.choice(row)[0], weight))
            instants = met_wishes(roster, row, tuple((x, y, pair(weight)) for x, y, weight in wishes))
            self.assertEqual(instants is not None, can_be_met(row, far, wishes))
            met[instants is not None] += 1
            if instants is not None:
                self.assertTrue(slow_webs.is_fit(roster, row, instants))
                at = {event[0]: number(instant) for event, instant in zip(row, instants)}
                for x, y, weight in wishes:
                    self.assertGreaterEqual(at[y] - at[x], weight)
        self.assertGreater(min(met.values()), 30)

    def test_stars_are_met_if_each_wish_is(self):
        for dice, roster, row, far in fitting_rows(3400, 60):
            hub = dice.choice(row)[0]
            into = [(x, hub, -far[hub, x]) for x, _, _ in row if far[hub, x] is not None]
            self.assertIsNotNone(met_wishes(roster, row, tuple((x, y, pair(w)) for x, y, w in into)))
            out = [(hub, y, -far[y, hub]) for y, _, _ in row if far[y, hub] is not None]
            self.assertIsNotNone(met_wishes(roster, row, tuple((x, y, pair(w)) for x, y, w in out)))
            hair = Fraction(1, 10 ** 16)
            for x, y, w in into[:2] + out[:2]:
                self.assertIsNone(met_wishes(roster, row, ((x, y, pair(w + hair)),)))

    def test_a_wish_from_an_event_to_itself(self):
        row = two_letters()
        self.assertIsNone(met_wishes((), row, (((0, 0, 1), (0, 0, 1), (1, 10 ** 16)),)))
        for weight in ((0, 1), (-1, 1)):
            self.assertIsNotNone(met_wishes((), row, (((0, 0, 1), (0, 0, 1), weight),)))
        self.assertIsNone(met_wishes((), row[:1], (((0, 0, 0), (0, 0, 0), (1, 1)),)))

    def test_no_wishes(self):
        row = two_letters()
        self.assertIsNone(fit_fault((), row, met_wishes((), row, ())))
        self.assertEqual(met_wishes((), (), ()), ())

    def test_unknown_ids_wish_by_wish(self):
        row, good = two_letters(), ((0, 0, 1), (1, 0, 1), (1, 1))
        one, two = (8, 0, 0), (9, 0, 0)
        self.assertEqual(told(met_wishes, (), row, ((one, two, (1, 1)),)), ("Refused", one))
        self.assertEqual(told(met_wishes, (), row, ((good[0], two, (1, 1)), (one, one, (1, 1)))), ("Refused", two))
        self.assertEqual(told(met_wishes, (), row, (good, (two, good[0], (99, 1)))), ("Refused", two))
        impossible = ((0, 0, 0), (0, 0, 1), (99, 1))
        self.assertEqual(told(met_wishes, (), row, (impossible, (good[0], one, (1, 1)))), ("Refused", one))
        self.assertEqual(told(met_wishes, (), (), ((one, two, (1, 1)),)), ("Refused", one))


if __name__ == "__main__":
    unittest.main()
