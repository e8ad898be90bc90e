"""Points 25 to 28: edges, ways, webs kept up, rings."""

import unittest

from goodtill.webs import Web, positive_ring, ring_serves, ways_from, ways_to, web_of
from tests import slow_webs
from tests.build import Rows
from tests.slow_views import back
from tests.slow_webs import pair
from tests.some_rows import rows_with_clocks
from tests.told import ANYTHING, nested, told


def two_letters(there=0, home=10):
    """Node 0 writes at its 3, node 1 hears and writes 2 of its ticks later, node 0 hears at its home."""
    rows = Rows()
    rows.start(0)
    rows.start(1, at=there)
    sent = rows.do(0, "send", 1, at=3)
    rows.do(1, "hear", sent)
    answer = rows.do(1, "send", 0, at=there + 2)
    rows.do(0, "hear", answer, at=home)
    return rows.events()


class Ways(unittest.TestCase):
    def test_all_pairs_of_random_rows(self):
        none = 0
        for dice, roster, row in rows_with_clocks(2500, 120):
            far = slow_webs.ways(roster, row)
            if far is None:
                continue
            web = web_of(roster, row)
            for x in row:
                self.assertEqual(ways_from(roster, row, x[0]), tuple(pair(far[x[0], z[0]]) for z in row))
                self.assertEqual(ways_to(roster, row, x[0]), tuple(pair(far[z[0], x[0]]) for z in row))
                for y in row:
                    self.assertEqual(web.way(x[0], y[0]), pair(far[x[0], y[0]]))
                    none += far[x[0], y[0]] is None
        self.assertGreater(none, 100)

    def test_clocks_at_both_bounds(self):
        row = two_letters(home=8)
        # home is 5 ticks of node 0 behind the letter: from 10 to 20 units with (2, 4); node 1 needs from 6 to 10 of them
        roster = ((2, 4), (3, 5))
        web = web_of(roster, row)
        sent, heard, answer, home = row[2][0], row[3][0], row[4][0], row[5][0]
        self.assertEqual(web.way(sent, home), (10, 1))
        self.assertEqual(web.way(home, sent), (-20, 1))
        self.assertEqual(web.way(heard, answer), (6, 1))
        self.assertEqual(web.way(answer, heard), (-10, 1))
        self.assertEqual(web.way(sent, heard), (0, 1))
        self.assertEqual(web.way(heard, sent), (-14, 1))
        self.assertEqual(web.way(home, answer), (-14, 1))

    def test_nodes_beyond_the_roster_keep_true_time(self):
        row = two_letters()
        self.assertEqual(ways_to((), row, (0, 0, 2)), ((10, 1), (2, 1), (7, 1), (2, 1), (0, 1), (0, 1)))
        self.assertEqual(ways_to(((1, 1), (1, 1)), row, (0, 0, 2)), ways_to((), row, (0, 0, 2)))
        far = (((31, 0, 0), (0, 1), ("start", None)), ((31, 0, 1), (7, 3), ("tick",)))
        self.assertEqual(ways_from(((1, 5),) * 31, far, (31, 0, 0)), ((0, 1), (7, 3)))
        self.assertEqual(ways_from(((1, 5),) * 32, far, (31, 0, 1)), ((-35, 3), (0, 1)))

    def test_no_way(self):
        row = two_letters()[:3]
        self.assertEqual(ways_from((), row, (0, 0, 1)), ((-3, 1), None, (0, 1)))
        self.assertEqual(ways_to((), row, (1, 0, 0)), (None, (0, 1), None))

    def test_unknown_ids(self):
        row = two_letters()
        for event_id in ((0, 0, 3), (5, 0, 0), (0, 1, 0)):
            self.assertEqual(told(ways_from, (), row, event_id), ("Refused", event_id))
            self.assertEqual(told(ways_to, (), row, event_id), ("Refused", event_id))
        self.assertEqual(told(ways_from, (), (), (0, 0, 0)), ("Refused", (0, 0, 0)))


class Webs(unittest.TestCase):
    def test_events_one_after_another(self):
        refused = 0
        for dice, roster, row in rows_with_clocks(2600, 150):
            web, kept = Web(roster), []
            for event in row:
                known = {other[0] for other in kept}
                far = slow_webs.ways(roster, kept + [event]) if set(back(event)) <= known else None
                if far is None:
                    before = [[web.way(x, y) for y in web.ids()] for x in web.ids()]
                    self.assertEqual(told(web.add, event), ("Refused", event[0]))
                    self.assertEqual(web.ids(), tuple(sorted(known)))
                    self.assertEqual([[web.way(x, y) for y in web.ids()] for x in web.ids()], before)
                    self.assertEqual(told(web.way, event[0], event[0]), ("Refused", event[0]))
                    refused += 1
                else:
                    self.assertIsNone(web.add(event))
                    kept.append(event)
            far = slow_webs.ways(roster, kept)
            for x in kept:
                for y in kept:
                    self.assertEqual(web.way(x[0], y[0]), pair(far[x[0], y[0]]))
        self.assertGreater(refused, 10)

    def test_elder_lives_added_late(self):
        rows = Rows()
        rows.start(0)
        rows.start(1)
        rows.start(0, (0, 0, 0), at=10)
        rows.do(1, "send", 0, at=1)
        web = web_of(((1, 3), (1, 1)), rows.events())
        self.assertEqual(web.way((0, 0, 0), (0, 1, 0)), (10, 1))
        self.assertEqual(web.way((0, 1, 0), (0, 0, 0)), (-30, 1))
        late = rows.event(0, "hear", (1, 0, 1), life=0, at=4)
        web.add(late)
        self.assertEqual(web.ids(), ((0, 0, 0), (0, 0, 1), (0, 1, 0), (1, 0, 0), (1, 0, 1)))
        self.assertEqual(web.way((1, 0, 1), (0, 1, 0)), (6, 1))
        self.assertEqual(web.way((1, 0, 0), (0, 1, 0)), (7, 1))
        self.assertEqual(web.way((0, 0, 0), (0, 1, 0)), (10, 1))
        self.assertEqual(web.way((1, 0, 1), (0, 0, 0)), (-12, 1))
        self.assertIsNone(web.way((0, 0, 0), (1, 0, 1)))

    def test_lives_added_in_any_order(self):
        rows = Rows()
        rows.start(0, at=1)
        for life, at in ((7, 20), (3, 10), (5, 14)):
            rows.start(0, (0, 0, 0), life=life, at=at)
        rows.do(0, "tick", life=3, at=11)
        rows.do(0, "tick", life=0, at=4)
        rows.start(1)
        roster, row = ((1, 2),), rows.events()
        web, far = web_of(roster, row), slow_webs.ways(roster, row)
        for x in row:
            for y in row:
                self.assertEqual(web.way(x[0], y[0]), pair(far[x[0], y[0]]))
        self.assertEqual(web.way((0, 0, 1), (0, 3, 0)), (6, 1))
        self.assertEqual(web.way((0, 7, 0), (0, 0, 1)), (-32, 1))

    def test_the_nearest_neighbours_bound(self):
        rows = Rows()
        rows.start(0, at=0)
        rows.start(0, (0, 0, 0), life=7, at=20)
        rows.start(0, (0, 0, 0), life=3, at=10)
        rows.start(1)
        rows.do(0, "send", 1, life=3)
        rows.do(1, "hear", (0, 3, 1))
        rows.do(1, "send", 0)
        rows.do(1, "send", 0, at=1)
        web = web_of((), rows.events())
        self.assertEqual(told(web.add, rows.event(0, "hear", (1, 0, 2), life=0, at=10)), ("gives", None))
        self.assertEqual(web.way((1, 0, 2), (0, 3, 0)), (0, 1))
        self.assertEqual(told(web.add, ((0, 0, 2), (10, 1), ("hear", (1, 0, 3)))), ("Refused", (0, 0, 2)))

    def test_an_elder_life_that_closes_a_ring(self):
        rows = Rows()
        rows.start(0)
        rows.start(1, at=0)
        rows.do(0, "send", 1)
        rows.start(0, (0, 0, 1), at=4)
        rows.do(1, "hear", (0, 0, 1))
        rows.do(1, "send", 0, at=9)
        web = web_of((), rows.events())
        late = rows.event(0, "hear", (1, 0, 2), life=0, at=4)
        self.assertEqual(told(web.add, late), ("Refused", (0, 0, 2)))
        self.assertEqual(web.way((0, 1, 0), (0, 0, 1)), (-4, 1))
        web.add(rows.event(0, "tick", life=0, at=4))
        self.assertEqual(web.way((0, 0, 2), (0, 1, 0)), (0, 1))

    def test_each_refusal(self):
        row = two_letters()
        web = web_of((), row)
        for event in row:
            self.assertEqual(told(web.add, event), ("Refused", event[0]))
        for event in (((0, 0, 4), (20, 1), ("tick",)), ((2, 0, 1), (0, 1), ("tick",)), ((2, 1, 0), (0, 1), ("start", (2, 0, 0))),
                      ((1, 0, 3), (2, 1), ("hear", (0, 0, 3)))):
            self.assertEqual(told(web.add, event), ("Refused", event[0]))
        self.assertEqual(web.ids(), tuple(sorted(event[0] for event in row)))
        soon = two_letters(home=4)[5]
        self.assertEqual(told(web_of((), row[:5]).add, soon), ("Refused", (0, 0, 2)))

    def test_unknown_ids(self):
        web = web_of((), two_letters())
        self.assertEqual(told(web.way, (0, 0, 9), (9, 0, 9)), ("Refused", (0, 0, 9)))
        self.assertEqual(told(web.way, (0, 0, 1), (9, 0, 9)), ("Refused", (9, 0, 9)))
        self.assertEqual(told(Web(()).way, (0, 0, 0), (0, 0, 0)), ("Refused", (0, 0, 0)))
        self.assertEqual(Web(((1, 2),)).ids(), ())

    def test_denominators_that_come_late(self):
        web = Web(((1, 2),))
        web.add(((0, 0, 0), (0, 1), ("start", None)))
        web.add(((0, 0, 1), (1, 3), ("tick",)))
        web.add(((0, 0, 2), (5, 7), ("tick",)))
        web.add(((0, 0, 3), (10 ** 8 - 1, 10 ** 8), ("tick",)))
        self.assertEqual(web.way((0, 0, 0), (0, 0, 3)), (10 ** 8 - 1, 10 ** 8))
        self.assertEqual(web.way((0, 0, 2), (0, 0, 1)), (-16, 21))
        self.assertEqual(web.way((0, 0, 1), (0, 0, 2)), (8, 21))

    def test_rows_without_a_fit(self):
        row = two_letters(home=4)
        self.assertEqual(told(web_of, (), row), ("Refused", (0, 0, 2)))
        self.assertEqual(web_of((), row[:5]).ids(), ((0, 0, 0), (0, 0, 1), (1, 0, 0), (1, 0, 1), (1, 0, 2)))


class Rings(unittest.TestCase):
    def test_random_rows(self):
        rings = 0
        for dice, roster, row in rows_with_clocks(2700, 500):
            ring = positive_ring(roster, row)
            self.assertEqual(ring is None, slow_webs.ways(roster, row) is not None)
            if ring is None:
                self.assertEqual(told(web_of, roster, row)[0], "gives")
                continue
            rings += 1
            self.assertEqual(told(web_of, roster, row)[0], "Refused")
            weights = {(x, y): weight for x, y, weight in slow_webs.edges(roster, row)}
            self.assertGreaterEqual(len(ring), 2)
            self.assertEqual(len(set(ring)), len(ring))
            self.assertGreater(sum(weights[ring[k - 1], ring[k]] for k in range(len(ring))), 0)
            self.assertIs(ring_serves(roster, row, ring), True)
            self.assertIs(ring_serves(roster, row, ring[1:] + ring[:1]), True)
            for bad in (ring[::-1], ring + ring[:1], list(ring), ring + ((9, 9, 9),), ring + (None,)):
                self.assertIs(ring_serves(roster, row, bad), False)
        self.assertGreater(rings, 15)

    def test_just_positive_and_of_sum_nought(self):
        ring = ((0, 0, 1), (1, 0, 1), (1, 0, 2), (0, 0, 2))
        roster = ((1, 2), (1, 1))
        for home, serves in (((4, 1), False), ((3999999, 1000000), True), ((10 ** 8 * 4 - 1, 10 ** 8), True), ((4000001, 1000000), False)):
            row = two_letters()[:5] + (((0, 0, 2), home, ("hear", (1, 0, 2))),)
            self.assertIs(ring_serves(roster, row, ring), serves)
            self.assertEqual(positive_ring(roster, row) is None, not serves)

    def test_what_is_no_ring(self):
        roster, row = (), two_letters(home=4)
        ring = ((0, 0, 1), (1, 0, 1), (1, 0, 2), (0, 0, 2))
        self.assertIs(ring_serves(roster, row, ring), True)
        wrong = ANYTHING + (
            list(ring), ring[:1], ring[:3], ring + (ring[0],), ring * 2, ((0, 0, True),) + ring[1:], ring[:3] + ([0, 0, 2],),
            ring[:3] + (None,), ring[:3] + ((0, 0, 3),), ((0, 0, 1), (0, 0, 2)), ((0, 0, 1), (0, 0, 1)), (ring,), nested(100),
            ring[:3] + ((0, 0, [2]),), tuple(row), tuple(row) * 20, ("0.0.1", "1.0.1"), ((False, 0, 1),) + ring[1:],
        )
        for value in wrong:
            self.assertIs(ring_serves(roster, row, value), False, value)

    def test_rows_with_no_ring(self):
        self.assertIsNone(positive_ring((), ()))
        self.assertIsNone(positive_ring((), two_letters()[:1]))
        self.assertIs(ring_serves((), (), ()), False)


if __name__ == "__main__":
    unittest.main()
