"""Point 5: the sizes that are told are served without long waiting."""

import random
import time
import unittest
from fractions import Fraction

from goodtill.asking import asked_run, is_fresh, letters_heard, way_keepers
from goodtill.carry import joined_view, letter_events
from goodtill.custody import keeper_rows, owed_gives, standing_terms, unknown_to_keeper
from goodtill.desk import Desk
from goodtill.fields import Field
from goodtill.finders import good_ticks, may_tell, why_certain
from goodtill.fits import earliest_fit, fit_fault, latest_fit, met_wishes, mixed_fit
from goodtill.houses import entry_points, may_put, own_end, put_wait, shut_places, why_alive
from goodtill.hastejudge import haste_serves
from goodtill.hastes import haste_run
from goodtill.journal import Journal, read_journal
from goodtill.judging import has_right
from goodtill.pages import page_rows
from goodtill.pocket import pocket_of
from goodtill.promises import does_stand, gives_on, has_sworn, holders_of, is_past, span_of, ticks_left
from goodtill.recall import fewest_swears, left_to_swear, sworn_view
from goodtill.runs import World, are_alike, check_run, is_stale, lost_puts, record_of_run, seen_by, walk_truth
from goodtill.slipjudge import slip_serves
from goodtill.slips import slip_run
from goodtill.stops import Keeper, harm_of, stop_run, stop_serves
from goodtill.tables import Table
from goodtill.tree import walk_view
from goodtill.views import check_view, common_view, is_behind, life_gaps, past_of, view_of
from goodtill.webs import positive_ring, ring_serves, ways_from, ways_to, web_of
from goodtill.whole import whole_meter
from goodtill.wire import decode_stream, encode_stream, pack_events, unpack_events
from tests import slow_lines, some_events
from tests.build import Rows, chain
from tests.slow_webs import pair
from tests.some_houses import Play
from tests.test_tables import in_turns
from tests.told import told

LONG = 5


def some_deed(dice, node, nodes, sends, many):
    """A letter, a hearing, a put of node 0, or a telling."""
    lot = dice.random()
    if lot < 0.35:
        return ("send", dice.choice([other for other in range(nodes) if other != node]))
    if lot < 0.7 and sends[node]:
        return ("hear", dice.choice(sends[node]))
    if node == 0:
        return ("put", (), dice.choice("abc"), ("value", many))
    return ("tell", ("a",), 8, (("value", many), ()))


def large_run(seed, many, nodes, denominator, widest=1000):
    """A run of so many events, its clocks from 1 to the widest."""
    dice = random.Random(seed)
    run, last, sends, now = [], {}, [[] for _ in range(nodes)], Fraction(0)
    while len(run) < many:
        now = (now + Fraction(dice.randint(1, 10 ** 6), dice.randint(1, denominator))).limit_denominator(denominator)
        node = dice.randrange(nodes)
        if node not in last:
            event = ((node, 0, 0), (dice.randint(0, 1000), 1), ("start", None))
        else:
            (_, _, number), reading, instant = last[node]
            exact = Fraction(*reading) + (now - instant) / dice.randint(1, widest)
            near = exact.limit_denominator(denominator)
            ticks = near - Fraction(*reading)
            good = ticks <= now - instant <= widest * ticks
            event = ((node, 0, number + 1), pair(near if good else exact), some_deed(dice, node, nodes, sends, len(run)))
            if event[2][0] == "send":
                sends[event[2][1]].append(event[0])
        last[node] = (event[0], event[1], now)
        run.append((event, pair(now)))
    return ((1, widest),) * nodes, tuple(run)


def large_sight():
    """A row of 60 events of 8 nodes, 24 givings, pages five deep, odd readings; and its pages."""
    rows = Rows()
    odd = 10 ** 8 - 1

    def now():
        return Fraction(len(rows.row) * 10 ** 4 * odd + 1, odd)

    def do(node, *deed):
        return rows.do(node, *deed, at=pair(now()))

    for node in range(8):
        do(node, "start", None)
    sends = [do(node, "send", 0) for node in range(1, 8)]
    for send in sends:
        do(0, "hear", send)
    term, terms = (), [()]
    for label in "abcde":
        term = do(0, "put", term, label, ("page", 0, (("a", ("value", 1)), ("z", ("name", ("a", "z"))))))
        terms.append(term)
    for number in range(24):
        term = terms[number % 6]
        do(0, "give", term, "abcde"[number % 6] if number < 5 else "abcdez"[number % 5], pair(now() + 10 ** 9 + number), 1 + number % 7)
    for node in range(1, 5):
        do(0, "send", node)
    for node, number in zip(range(1, 5), range(37, 41)):
        do(node, "hear", (0, 0, number))
    do(0, "tick")
    return ((1, 1000),) * 8, rows.events(), terms


class FewGives(Play):
    """A run with 24 givings at the most."""

    def add(self, event):
        many = len([one for one in self.record.events if one[2][0] == "give"])
        return (event[2][0] != "give" or many < 24) and Play.add(self, event)


class Sizes(unittest.TestCase):
    def setUp(self):
        self.begun = time.process_time()

    def tearDown(self):
        self.assertLess(time.process_time() - self.begun, LONG)

    def test_runs_of_500_events(self):
        for nodes, denominator in ((8, 10 ** 4), (32, 10 ** 16)):
            roster, run = large_run(5, 500, nodes, denominator)
            self.assertIs(check_run(roster, run), run)
            for place in range(0, 501, 50):
                walk_truth(run, place, ("a", "b"), 8)
                for node in range(nodes):
                    seen_by(run, place, node)
            self.assertEqual(lost_puts(run), ())
            self.assertTrue(are_alike(run, run, run[-1][0][0]))
            for place in [at for at, (event, _) in enumerate(run) if event[2][0] == "tell"][:20]:
                is_stale(run, place)

    def test_a_world_that_grows_to_500_events(self):
        roster, run = large_run(6, 500, 32, 10 ** 16)
        world = World(roster)
        for event, instant in run:
            world.add(event, instant)
        for node in range(32):
            world.view(node)
        world.walk(("a",), 8)
        self.assertEqual(world.run(), run)

    def test_rows_of_60_events(self):
        for widest in (1, 3, 1000):
            roster, run = large_run(7, 60, 8, 10 ** 8, widest)
            row = tuple(event for event, _ in run)
            self.assertIs(check_view(row), row)
            web = web_of(roster, row)
            for event in row:
                web.way(row[0][0], event[0])
                ways_from(roster, row, event[0])
                ways_to(roster, row, event[0])
                past_of(row, event[0])
                is_behind(row, row[-1][0], event[0])
                common_view(row, event[0][0])
                view_of(row, event[0][0])
            self.assertIsNone(positive_ring(roster, row))
            self.assertEqual(life_gaps(row), ())
            self.assertIs(ring_serves(roster, row, tuple(event[0] for event in row) * 2), False)

    def test_fits_of_60_events(self):
        dice = random.Random(8)
        roster, run = large_run(8, 60, 8, 10 ** 8, 3)
        row = tuple(event for event, _ in run)
        instants = tuple((n * 10 ** 6 + dice.randint(0, 9), d * 10 ** 6 + 1) for (n, d) in (instant for _, instant in run))
        instants = tuple(pair(Fraction(*instant)) for instant in instants)
        fit_fault(roster, row, instants)
        fits = [earliest_fit(roster, row, event[0], (10 ** 20, 9973)) for event in row]
        for fit in fits:
            self.assertIsNone(fit_fault(roster, row, fit))
        mixed_fit(fits[0], fits[-1], (3333, 9998 + 1))
        try:
            latest_fit(roster, row, row[-1][0])
        except ValueError:
            pass
        wishes = []
        for _ in range(24):
            weight = Fraction(-dice.randint(1, 10 ** 34), 10 ** 16 - dice.randint(0, 10 ** 9))
            wishes.append((dice.choice(row)[0], dice.choice(row)[0], pair(weight)))
        met_wishes(roster, row, tuple(wishes))

    def test_rows_with_many_lives(self):
        row = [((0, 0, 0), (0, 1), ("start", None)), ((0, 0, 1), (0, 1), ("put", (), "a", ("value", 1)))]
        for life in range(1, 10):
            row.append(((0, life, 0), (life, 1), ("start", row[-1][0])))
            for number in range(1, 6):
                row.append(((0, life, number), (life, 1), ("put", (), "a", ("value", 10 * life + number))))
        row = tuple(row)
        self.assertIs(check_view(row), row)
        self.assertEqual(len(life_gaps(row)), 9)

    def test_rights_of_rows_of_60_events(self):
        roster, row, terms = large_sight()
        self.assertIs(check_view(row), row)
        self.assertIsNone(positive_ring(roster, row))
        self.assertEqual((len(row), len([event for event in row if event[2][0] == "give"])), (60, 24))
        for term in terms:
            page_rows(row, term)
            keeper_rows(row, term)
            owed_gives(row, 0, term)
            for label in ("a", "c", "q"):
                gives_on(row, term, label)
                shut_places(row, 0, term, label)
                may_put(roster, row, 0, term, label)
                put_wait(roster, row, 0, term, label)
                own_end(row, 0, term, label)
                left_to_swear(roster, row, 0, term, label)
                fewest_swears(roster, row, 0, term, label)
                for node in (0, 1, 2, 3, 4):
                    why_certain(roster, row, node, term, label)
        for give in [event[0] for event in row if event[2][0] == "give"]:
            span_of(row, give)
            holders_of(row, give)
            has_sworn(row, give, 0)
            for node in (0, 1, 4):
                does_stand(roster, row, node, give)
                is_past(roster, row, node, give)
                ticks_left(roster, row, node, give)
                why_alive(roster, row, node, give)
        pairs = [(event[2][4], event[0]) for event in row if event[2][0] == "give" and 0 < event[2][4] < 5]
        self.assertEqual(len(sworn_view(row, tuple(pairs), 0)), 60 + 3 * len(pairs))

    def test_answers_of_rows_of_60_events(self):
        roster, row, _ = large_sight()
        for node in range(8):
            entry_points(row, node)
            self.assertEqual(pocket_of(roster, row, node) == (), node > 1)
            for name in (("a",), ("a", "b", "c", "d", "e", "a"), ("a", "z"), ("q",)):
                walk_view(row, name, 8)
                may_tell(roster, row, node, name, 8)
                told(good_ticks, roster, row, node, name, 8)
        for event in row:
            if event[2][0] == "send":
                letter = letter_events(row, event[0])
                joined_view(row[:30], letter)

    def test_tables_of_400_events(self):
        for nodes, seed in ((8, 1), (3, 2)):
            dice = random.Random(seed)
            roster = ((1, 2),) * nodes
            row = tuple(event for event, _ in FewGives(dice, roster, nodes, promise=20).grow(400))
            order = in_turns(dice, row, 0)
            begun = time.process_time()
            table = Table(roster, 0)
            for event in order:
                self.assertIsNone(table.tell(event))
                if event[0][0] == 0:
                    told(table.wait, (), "a")
                    told(table.good, ("a", "b"), 8)
                    for give in [one[0] for one in row if one[2][0] == "give"]:
                        told(table.alive, give)
                table.live()
            self.assertLess(time.process_time() - begun, LONG)
            self.begun = time.process_time()

    def test_custody_of_runs_of_500_events(self):
        play = Play(random.Random(3), ((1, 3),) * 8, 8, lives=0.01, losses=True)
        run = play.grow(500)
        self.assertEqual(len(run), 500)
        for place in range(0, 501, 20):
            for term in standing_terms(run, place)[:3]:
                told(unknown_to_keeper, run, place, term)

    def test_journals_of_60_rows(self):
        dice = random.Random(12)
        journal, rows = Journal(3), []
        for number in range(60):
            kind = dice.choice(("put", "give", "tell", "tick", "send")) if number else "start"
            deed = some_events.deed(dice, kind) if number else ("start", None)
            rows.append(((3, 10 ** 7, number), some_events.fraction(dice), deed))
            journal.write(rows[-1])
        self.assertEqual(read_journal(journal.text()), tuple(rows))
        one = f"node 3\n00ff{'ff' * 9000}7f00000101 1\n"
        for text in (one, "node 3\n" + "a" * 39000 + " 5\n", "\n" * 40000, "node 3\n" + " " * 39000 + "\n", "x" * 40000):
            told(read_journal, text)

    def test_asking_behind_370_events(self):
        dice = random.Random(14)
        rows = chain(6, (20, 21, 22, 23, 24))
        for label in "bcdefg":
            rows.put(24, rows.row[-1][2][1], label, ("value", 10 ** 10))
        for node in range(1, 8):
            rows.start(node, at=pair(Fraction(dice.randint(1, 10 ** 17), 10 ** 16 - node)), now=pair(Fraction(1, 10 ** 16 - 1)))
        while len(rows.row) < 370:
            rows.do(dice.randint(1, 7), *dice.choice((("tick",), ("send", 9), ("ask", ("a",), 0), ("send", 20))))
        rows.instants[-1] = pair(Fraction(10 ** 34, 10 ** 16 - 3))
        rows.row[-1] = ((25, 0, 0), (0, 1), ("start", None))
        run, name, roster = rows.run(), ("a",) * 6, ((1, 999),) * 32
        self.assertIs(check_run(roster, run), run)
        self.assertIs(is_fresh(run, 30, name, 8), True)
        self.assertEqual(way_keepers(run, 30, name, 8), (0, 20, 21, 22, 23, 24))
        asked = asked_run(roster, run, 30, name, 8)
        self.assertEqual((letters_heard(asked, len(run)), check_run(roster, asked)), (7, asked))
        for event, _ in asked:
            self.assertTrue(event[1][0] <= 10 ** 70 and event[1][1] <= 10 ** 60)

    def test_judging_runs_of_500_events(self):
        roster, run = large_run(5, 500, 8, 10 ** 4)
        events = tuple(event for event, _ in run)
        record = record_of_run(run)
        for at in range(0, 500, 25):
            seen = seen_by(run, at + 1, run[at][0][0][0])
            if len(seen) < 200:
                has_right(roster, record, run[at][0])
        last = run[-1][0]
        slip_serves(roster, events[:-1], last[0][0], ("a",), 8, (("value", 499), ()), run)
        haste_serves(roster, events[:60], 0, (), "a", ("value", 5), run)

    def test_judging_a_run_of_many_deeds_outside(self):
        """A node alone, then 480 events of others of which each is a put or a telling that has its right."""
        rows = Rows()
        rows.start(0, at=0)
        rows.put(0, (), "a", ("value", 0))
        rows.start(1, at=0)
        rows.letter(1, 0)
        for label in "bcdefghi":
            rows.give(0, (), label, 10 ** 9, 1)
        rows.letter(0, 1)
        view = rows.events()
        for number in range(240):
            rows.put(0, (), "a", ("value", number + 1))
            rows.do(0, "tell", ("a",), 0, (("value", number + 1), ()))
        rows.do(1, "tell", ("a",), 0, (("value", 0), ()))
        self.assertIs(slip_serves((), view, 1, ("a",), 0, (("value", 0), ()), rows.run()), True)

    def test_fields_with_many_wishes_and_asks(self):
        roster = ((1, 1000),) * 8
        field = Field(roster, (10 ** 6, 7))
        for label in "abcde":
            field.do(("wish", 0, (), label, ("value", 1)))
        for node in (1, 2, 3):
            for label in "abcd":
                field.do(("ask", node, (label,), 8))
        for _ in range(3):
            field.do(("bring", 0))
        for number in range(30):
            told(field.do, ("wish", 0, (), "abcde"[number % 5], ("value", 2 + number)))
        field.do(("time", (10 ** 7 + 1, 10 ** 3)))
        for _ in range(6):
            field.do(("double", 0))
        self.assertEqual(len(field.done()), 35)

    def within(self, run):
        """The numerators and denominators of a run that is told keep to what point 5 tells."""
        for event, (n, d) in run:
            self.assertTrue(abs(n) <= 10 ** 34 and d <= 10 ** 16)
            for n, d in [event[1]] + [part for part in event[2] if event[2][0] == "give" and part == event[2][3]]:
                self.assertTrue(0 <= n <= 10 ** 34 and d <= 10 ** 16)

    def test_runs_that_show_something_of_rows_of_60_events(self):
        roster, row, terms = large_sight()
        slow = tuple((997 - node, 999 - node) for node in range(8))
        for clocks in (roster, slow, ((991, 1000),) * 8):
            if positive_ring(clocks, row) is not None:
                continue
            for node in range(8):
                for name in (("a",), ("a", "b", "c", "d", "e", "a"), ("a", "z"), ("q",)):
                    for answer in ((("nothing",), ()), walk_view(row, name, 8)[0]):
                        if may_tell(clocks, row, node, name, 8) != ("told", answer):
                            run = slip_run(clocks, row, node, name, 8, answer)
                            self.within(run)
                            self.assertIs(slip_serves(clocks, row, node, name, 8, answer, run), True)
            for term in terms:
                for label in ("a", "b", "c", "q"):
                    if may_put(clocks, row, 0, term, label)[0] == "not":
                        run = haste_run(clocks, row, 0, term, label, ("value", 10 ** 10))
                        self.within(run)
                        self.assertIs(haste_serves(clocks, row, 0, term, label, ("value", 10 ** 10), run), True)
            for deed in (("send", 9), ("tell", ("a", "b", "c", "d", "e", "a"), 8, (("nothing",), ()))):
                run = stop_run(clocks, row, 0, None, deed)
                self.within(run)
                self.assertIs(stop_serves(clocks, row, 0, None, deed, run), True)

    def test_the_whole_of_a_large_row(self):
        roster, row, _ = large_sight()
        run = tuple((event, (event[1][0] * 500, event[1][1])) for event in row)
        run = tuple((event, pair(Fraction(n, d))) for event, (n, d) in run)
        self.assertIs(check_run(roster, run), run)
        names = (("a",), ("a", "b"), ("a", "b", "c"), ("a", "z"), ("q",), ("a",) * 6)
        for place in (20, 40, 60):
            self.assertEqual(len(whole_meter(roster, run, place, names, 8)), 8)

    def test_the_whole_of_a_run_of_500_events(self):
        """Thirty-two nodes; house 0 has promised much to node 1, and the others write to each other now and then."""
        rows = Rows()
        for node in range(32):
            rows.start(node)
        rows.letter(1, 0)
        for at in range(24):
            rows.put(0, (), "abcdefghijklmnopqrstuvwx"[at], ("value", at))
        for at in range(24):
            rows.give(0, (), "abcdefghijklmnopqrstuvwx"[at], 10 ** 6, 1 + at % 4)
        rows.do(0, "send", 1)
        for number in range(500 - len(rows.row)):
            rows.do(2 + number % 30, "tick", at=number // 30 + 1, now=number // 30 + 1)
        self.assertEqual(len(rows.row), 500)
        run = rows.run()
        self.assertIs(check_run(((1, 1),), run), run)
        meter = whole_meter(((1, 1),), run, 500, tuple((label,) for label in "abcdef"), 8)
        self.assertEqual({outcome[0] for _, outcome in meter[0][2]}, {"haste"})

    def test_harms_of_runs_of_500_events(self):
        roster, run = large_run(5, 500, 8, 10 ** 4)
        harm_of(run)
        rows = Rows()
        rows.start(0)
        for number in range(249):
            rows.put(0, (), "a", ("value", number))
            rows.do(0, "tell", ("a",), 8, (("value", number), ()))
        self.assertIsNone(harm_of(rows.run()))

    def test_keepers_of_60_events(self):
        keeper = Keeper(((1, 1000),) * 8, 0)
        keeper.start((1, 3))
        for number in range(1, 60):
            deed = ("put", (), "abc"[number % 3], ("value", number)) if number % 2 else ("tell", ("a",), 8, (("value", 1), ()))
            keeper.do(((0, 0, number), (number, 3) if number % 3 else (number // 3, 1), deed), ())
        self.assertEqual(len(keeper.view()), 60)
        keeper.stop(60)

    def test_desks_of_400_changes(self):
        desk = Desk()
        desk.say("roster " + " ".join(["1-1000"] * 32))
        _, row, _ = large_sight()
        for event in row:
            self.assertEqual(desk.say(slow_lines.line(event))[-8:], ", 0 laid")
        for number in range(330):
            desk.say(f"lay {number} tick 0.0.{number} {number}")
        for line in ("pocket 0", "may 0 root a", "haste 0 root a none", "judge haste 0 root a none", "slip 3 a 0 nothing", "check", "harm"):
            desk.say(line)
        for _ in range(390):
            desk.say("undo")

    def test_130_events_on_the_wire(self):
        dice = random.Random(9)
        row = tuple(some_events.event(dice) for _ in range(130))
        self.assertEqual(unpack_events(pack_events(row)), row)
        octets, rest = encode_stream(row), ()
        for octet in octets[:1700]:
            _, rest = decode_stream(rest + (octet,))


if __name__ == "__main__":
    unittest.main()
