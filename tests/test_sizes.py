"""Point 5: the sizes that are told are served without long waiting."""

import random
import time
import unittest
from fractions import Fraction

from goodtill.fits import earliest_fit, fit_fault, latest_fit, met_wishes, mixed_fit
from goodtill.runs import World, are_alike, check_run, is_stale, lost_puts, seen_by, walk_truth
from goodtill.views import check_view, common_view, is_behind, life_gaps, past_of, view_of
from goodtill.webs import positive_ring, ring_serves, ways_from, ways_to, web_of
from goodtill.wire import decode_stream, encode_stream, pack_events, unpack_events
from tests import some_events
from tests.slow_webs import pair

LONG = 5


def some_deed(dice, node, nodes, sends, many):
    """A letter, a hearing, a put of node 0, or a telling."""
    lot = dice.random()
    if lot < 0.35:
        return ("send", dice.choice([other for other in range(nodes) if other != node]))
    if lot < 0.7 and sends[node]:
        return ("hear", dice.choice(sends[node]))
    if node == 0:
        return ("put", (), dice.choice("abc"), ("value", many))
    return ("tell", ("a",), 8, (("value", many), ()))


def large_run(seed, many, nodes, denominator, widest=1000):
    """A run of so many events, its clocks from 1 to the widest."""
    dice = random.Random(seed)
    run, last, sends, now = [], {}, [[] for _ in range(nodes)], Fraction(0)
    while len(run) < many:
        now = (now + Fraction(dice.randint(1, 10 ** 6), dice.randint(1, denominator))).limit_denominator(denominator)
        node = dice.randrange(nodes)
        if node not in last:
            event = ((node, 0, 0), (dice.randint(0, 1000), 1), ("start", None))
        else:
            (_, _, number), reading, instant = last[node]
            exact = Fraction(*reading) + (now - instant) / dice.randint(1, widest)
            near = exact.limit_denominator(denominator)
            ticks = near - Fraction(*reading)
            good = ticks <= now - instant <= widest * ticks
            event = ((node, 0, number + 1), pair(near if good else exact), some_deed(dice, node, nodes, sends, len(run)))
            if event[2][0] == "send":
                sends[event[2][1]].append(event[0])
        last[node] = (event[0], event[1], now)
        run.append((event, pair(now)))
    return ((1, widest),) * nodes, tuple(run)


class Sizes(unittest.TestCase):
    def setUp(self):
        self.begun = time.process_time()

    def tearDown(self):
        self.assertLess(time.process_time() - self.begun, LONG)

    def test_runs_of_500_events(self):
        for nodes, denominator in ((8, 10 ** 4), (32, 10 ** 16)):
            roster, run = large_run(5, 500, nodes, denominator)
            self.assertIs(check_run(roster, run), run)
            for place in range(0, 501, 50):
                walk_truth(run, place, ("a", "b"), 8)
                for node in range(nodes):
                    seen_by(run, place, node)
            self.assertEqual(lost_puts(run), ())
            self.assertTrue(are_alike(run, run, run[-1][0][0]))
            for place in [at for at, (event, _) in enumerate(run) if event[2][0] == "tell"][:20]:
                is_stale(run, place)

    def test_a_world_that_grows_to_500_events(self):
        roster, run = large_run(6, 500, 32, 10 ** 16)
        world = World(roster)
        for event, instant in run:
            world.add(event, instant)
        for node in range(32):
            world.view(node)
        world.walk(("a",), 8)
        self.assertEqual(world.run(), run)

    def test_rows_of_60_events(self):
        for widest in (1, 3, 1000):
            roster, run = large_run(7, 60, 8, 10 ** 8, widest)
            row = tuple(event for event, _ in run)
            self.assertIs(check_view(row), row)
            web = web_of(roster, row)
            for event in row:
                web.way(row[0][0], event[0])
                ways_from(roster, row, event[0])
                ways_to(roster, row, event[0])
                past_of(row, event[0])
                is_behind(row, row[-1][0], event[0])
                common_view(row, event[0][0])
                view_of(row, event[0][0])
            self.assertIsNone(positive_ring(roster, row))
            self.assertEqual(life_gaps(row), ())
            self.assertIs(ring_serves(roster, row, tuple(event[0] for event in row) * 2), False)

    def test_fits_of_60_events(self):
        dice = random.Random(8)
        roster, run = large_run(8, 60, 8, 10 ** 8, 3)
        row = tuple(event for event, _ in run)
        instants = tuple((n * 10 ** 6 + dice.randint(0, 9), d * 10 ** 6 + 1) for (n, d) in (instant for _, instant in run))
        instants = tuple(pair(Fraction(*instant)) for instant in instants)
        fit_fault(roster, row, instants)
        fits = [earliest_fit(roster, row, event[0], (10 ** 20, 9973)) for event in row]
        for fit in fits:
            self.assertIsNone(fit_fault(roster, row, fit))
        mixed_fit(fits[0], fits[-1], (3333, 9998 + 1))
        try:
            latest_fit(roster, row, row[-1][0])
        except ValueError:
            pass
        wishes = []
        for _ in range(24):
            weight = Fraction(-dice.randint(1, 10 ** 34), 10 ** 16 - dice.randint(0, 10 ** 9))
            wishes.append((dice.choice(row)[0], dice.choice(row)[0], pair(weight)))
        met_wishes(roster, row, tuple(wishes))

    def test_rows_with_many_lives(self):
        row = [((0, 0, 0), (0, 1), ("start", None)), ((0, 0, 1), (0, 1), ("put", (), "a", ("value", 1)))]
        for life in range(1, 10):
            row.append(((0, life, 0), (life, 1), ("start", row[-1][0])))
            for number in range(1, 6):
                row.append(((0, life, number), (life, 1), ("put", (), "a", ("value", 10 * life + number))))
        row = tuple(row)
        self.assertIs(check_view(row), row)
        self.assertEqual(len(life_gaps(row)), 9)

    def test_130_events_on_the_wire(self):
        dice = random.Random(9)
        row = tuple(some_events.event(dice) for _ in range(130))
        self.assertEqual(unpack_events(pack_events(row)), row)
        octets, rest = encode_stream(row), ()
        for octet in octets[:1700]:
            _, rest = decode_stream(rest + (octet,))


if __name__ == "__main__":
    unittest.main()
