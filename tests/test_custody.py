"""Points 69 to 71: keeper rows, what is owed, what is so at a place of a run, and what holds of it."""

import random
import unittest

from goodtill.custody import keeper_rows, owed_gives, standing_terms, unknown_to_keeper
from goodtill.finders import may_tell
from goodtill.houses import may_put
from goodtill.pages import does_keep
from goodtill.runs import check_run, lost_puts, seen_by, walk_truth
from tests import slow_custody
from tests.build import Rows
from tests.slow_rights import is_page
from tests.slow_webs import pair
from tests.some_houses import LABELS, Play, some_clocks
from tests.told import told


def page(house, *first):
    return ("page", house, first)


class KeeperRows(unittest.TestCase):
    def test_handed_on_several_times(self):
        rows = Rows()
        for node in range(3):
            rows.start(node)
        term = rows.put(0, (), "p", page(2))
        self.assertEqual(keeper_rows(rows.events(), term), ((term, 2),))
        rows.letter(0, 2)
        expected = [(term, 2)]
        for node, to in ((2, 1), (1, 0), (0, 2), (2, 0)):
            expected.append((rows.do(node, "hand", term, to), to))
            rows.letter(node, to)
            self.assertEqual(keeper_rows(rows.events(), term), tuple(expected))
        self.assertEqual(keeper_rows(rows.events(), ()), (((), 0),))
        hand = rows.do(0, "hand", (), 1)
        self.assertEqual(keeper_rows(rows.events(), ()), (((), 0), (hand, 1)))
        self.assertEqual(keeper_rows((), ()), (((), 0),))

    def test_terms_that_are_no_page(self):
        rows = Rows()
        rows.start(0)
        value = rows.put(0, (), "v", ("value", 1))
        for wrong in (value, (0, 0, 0), (4, 4, 4)):
            self.assertEqual(told(keeper_rows, rows.events(), wrong), ("Refused", wrong))


class Owed(unittest.TestCase):
    def test_labels_of_first_entries_puts_and_givings(self):
        rows = Rows()
        rows.start(0)
        term = rows.put(0, (), "p", page(0, ("b", ("value", 1)), ("d", ("value", 2))))
        on_b = rows.give(0, term, "b", 9, 1)
        gap = rows.give(0, term, "c", 9, 1)
        self.assertEqual(owed_gives(rows.events(), 0, term), (("b", (on_b,)), ("c", (gap,))))
        rows.put(0, term, "ca", ("value", 3))
        rows.put(0, term, "a", ("value", 3))
        on_a = rows.give(0, term, "a", 9, 1)
        self.assertEqual(owed_gives(rows.events(), 0, term), (("a", (on_a,)), ("b", (on_b,)), ("c", (gap,))))
        rows.put(0, term, "ca", None)
        again = rows.give(0, term, "cb", 9, 1)
        expected = (("a", (on_a,)), ("b", (on_b,)), ("c", (gap, again)), ("ca", (again,)), ("cb", (gap, again)))
        self.assertEqual(owed_gives(rows.events(), 0, term), expected)
        rows.put(0, term, "cb", ("value", 1))
        self.assertEqual(owed_gives(rows.events(), 0, term), expected[:4])
        self.assertEqual(owed_gives(rows.events(), 0, ()), ())

    def test_past_ones_and_those_sworn_off_are_owed_too(self):
        rows = Rows()
        rows.start(0)
        give = rows.give(0, (), "b", 0, 1)
        rows.do(0, "swear", give)
        rows.do(0, "tick", at=50)
        self.assertEqual(owed_gives(rows.events(), 0, ()), (("b", (give,)),))

    def test_errors(self):
        rows = Rows()
        rows.start(0)
        rows.start(1)
        rows.put(0, (), "v", ("value", 1))
        for term in ((), (0, 0, 1), (9, 9, 9)):
            self.assertEqual(told(owed_gives, rows.events(), 5, term), ("Refused", 5))
        for term in ((0, 0, 0), (0, 0, 1), (9, 9, 9)):
            self.assertEqual(told(owed_gives, rows.events(), 0, term), ("Refused", term))
        self.assertEqual(told(owed_gives, rows.events(), 1, ()), ("Refused", ()))

    def test_by_the_view_of_the_node(self):
        rows = Rows()
        rows.start(0)
        rows.start(1)
        give = rows.give(0, (), "b", 9, 2)
        rows.do(0, "hand", (), 1)
        self.assertEqual(told(owed_gives, rows.events(), 1, ()), ("Refused", ()))
        self.assertEqual(told(owed_gives, rows.events(), 0, ()), ("Refused", ()))
        rows.letter(0, 1)
        self.assertEqual(owed_gives(rows.events(), 1, ()), (("b", (give,)),))


class Places(unittest.TestCase):
    def test_a_page_under_way_and_handed_on(self):
        rows = Rows()
        rows.start(0)
        rows.start(1)
        rows.put(0, (), "a", ("value", 1))
        rows.do(0, "hand", (), 1)
        rows.letter(0, 1)
        run = rows.run()
        found = [told(unknown_to_keeper, run, place, ()) for place in range(len(run) + 1)]
        none, refused = ("gives", ()), ("Refused", ())
        self.assertEqual(found, [refused, none, none, none, refused, refused, none])

    def test_a_page_that_its_house_has_not_heard_of(self):
        rows = Rows()
        rows.start(0)
        rows.start(1)
        term = rows.put(0, (), "p", page(1))
        rows.letter(0, 1)
        run = rows.run()
        found = [told(unknown_to_keeper, run, place, term) for place in range(len(run) + 1)]
        self.assertEqual(found, [("Refused", term)] * 5 + [("gives", ())])
        for wrong in ((0, 0, 0), (0, 0, 2), (9, 9, 9)):
            self.assertEqual(told(unknown_to_keeper, run, 5, wrong), ("Refused", wrong))

    def lossy(self):
        """House 0 hands the root to 1, forgets it in its next life, and goes on as its keeper."""
        rows = Rows()
        rows.start(0)
        rows.start(1)
        rows.do(0, "hand", (), 1)
        rows.letter(0, 1)
        rows.put(1, (), "a", ("value", 1))
        rows.give(1, (), "b", 9, 0)
        rows.start(0, (0, 0, 0))
        rows.put(0, (), "c", ("value", 2))
        return rows

    def test_two_keepers_where_a_run_is_not_kept(self):
        run = self.lossy().run()
        self.assertIs(check_run((), run), run)
        found = [told(unknown_to_keeper, run, place, ()) for place in range(len(run) + 1)]
        expected = [(), (), None, None, (), (), (), ((1, 0, 2), (1, 0, 3)), ((0, 1, 1), (1, 0, 2), (1, 0, 3))]
        self.assertEqual(found, [("Refused", ())] + [("Refused", ()) if one is None else ("gives", one) for one in expected])

    def test_a_torn_keeper_keeps_nothing(self):
        rows = self.lossy()
        rows.letter(0, 1)
        run = rows.run()
        self.assertEqual(told(unknown_to_keeper, run, len(run) - 1, ()), ("gives", ((0, 1, 1), (1, 0, 2), (1, 0, 3))))
        self.assertEqual(told(unknown_to_keeper, run, len(run), ()), ("gives", ((1, 0, 2), (1, 0, 3))))

    def test_lost_pages_are_not_there(self):
        rows = Rows()
        rows.start(0)
        rows.put(0, (), "p", page(0))
        term = rows.put(0, (), "q", page(0))
        rows.put(0, term, "x", ("value", 1))
        run = rows.run()
        self.assertEqual(standing_terms(run, 4), ((), (0, 0, 1), (0, 0, 2)))
        self.assertEqual(unknown_to_keeper(run, 4, term), ())
        rows.start(0, (0, 0, 1))
        run = rows.run()
        self.assertEqual(lost_puts(run), ((0, 0, 2), (0, 0, 3)))
        for place in range(6):
            self.assertEqual(told(unknown_to_keeper, run, place, term), ("Refused", term))
            self.assertEqual(standing_terms(run, place), ((), (0, 0, 1)) if place > 1 else ((),))

    def test_lost_puts_are_not_missed(self):
        rows = Rows()
        rows.start(0)
        rows.put(0, (), "a", ("value", 1))
        rows.give(0, (), "a", 9, 1)
        rows.start(0, (0, 0, 0))
        self.assertEqual([told(unknown_to_keeper, rows.run(), place, ()) for place in range(5)], [("Refused", ())] + [("gives", ())] * 4)

    def test_standing_pages(self):
        rows = Rows()
        rows.start(0)
        one = rows.put(0, (), "p", page(0))
        two = rows.put(0, one, "q", page(0))
        three = rows.put(0, (), "r", page(0))
        rows.put(0, two, "v", ("value", 1))
        rows.put(0, (), "p", None)
        rows.put(0, two, "w", page(0))
        four = rows.put(0, (), "p", page(0))
        rows.put(0, (), "r", ("value", 1))
        run = rows.run()
        expected = [((),), ((),), ((), one), ((), one, two), ((), one, two, three), ((), one, two, three), ((), three), ((), three),
                    ((), three, four), ((), four)]
        self.assertEqual([standing_terms(run, place) for place in range(10)], expected)
        self.assertEqual(standing_terms((), 0), ((),))

    def test_terms_ascend(self):
        rows = Rows()
        rows.start(0)
        rows.start(2)
        deep = rows.put(0, (), "x", page(2))
        rows.letter(0, 2)
        high = rows.put(2, deep, "p", page(0))
        low = rows.put(0, (), "y", page(0))
        self.assertEqual(standing_terms(rows.run(), len(rows.row)), ((), deep, low, high))

    def test_in_the_order_of_the_run(self):
        rows = Rows()
        rows.start(0)
        rows.start(2)
        rows.do(0, "hand", (), 2)
        rows.letter(0, 2)
        term = rows.put(2, (), "p", page(0))
        rows.start(0, (0, 0, 0))
        other = rows.put(0, (), "p", page(0))
        run = rows.run()
        self.assertEqual([standing_terms(run, place) for place in (6, 7, 8)], [((), term), ((), term), ((), other)])

    def test_random_runs(self):
        found = {}
        for index in range(120):
            dice = random.Random(7000 + index)
            nodes = dice.randint(2, 4)
            play = Handing(dice, some_clocks(dice, nodes), nodes, lives=dice.choice((0, 0.1, 0.2)), losses=True)
            run = play.grow(dice.randint(5, 36))
            terms = [()] + [event[0] for event, _ in run if is_page(event)] + [(0, 0, 0)]
            for place in [len(run)] + dice.sample(range(len(run) + 1), 4):
                self.assertEqual(standing_terms(run, place), slow_custody.standing_terms(run, place))
                for term in terms:
                    fast = told(unknown_to_keeper, run, place, term)
                    self.assertEqual(fast, told(slow_custody.unknown_to_keeper, run, place, term), (index, place, term))
                    found[fast[0], bool(fast[1])] = found.get((fast[0], bool(fast[1])), 0) + 1
        self.assertGreater(found["gives", True], 5)


class Theorems(unittest.TestCase):
    def test_nothing_is_forgotten(self):
        kept = 0
        for index in range(150):
            dice = random.Random(7100 + index)
            nodes = dice.randint(2, 4)
            run = Handing(dice, some_clocks(dice, nodes), nodes, lives=0.1, losses=True).grow(30)
            if slow_custody.is_kept(run):
                kept += 1
                for place in dice.sample(range(len(run) + 1), 6):
                    for term in [()] + [event[0] for event, _ in run if is_page(event)]:
                        self.assertIn(told(unknown_to_keeper, run, place, term), (("gives", ()), ("Refused", term)))
        self.assertGreater(kept, 30)

    def test_there_and_back(self):
        for index in range(60):
            dice = random.Random(7200 + index)
            nodes = dice.randint(2, 4)
            run = Play(dice, some_clocks(dice, nodes), nodes, lives=0.05, losses=True).grow(30)
            lost = lost_puts(run)
            stood = {}
            for place in range(len(run) + 1):
                terms = standing_terms(run, place)
                there = [event[0] for event, _ in run[:place] if is_page(event) and event[0] not in lost]
                for term in there:
                    self.assertFalse(term in terms and stood.get(term) is False)
                    stood[term] = term in terms

    def test_what_may_be_told_is_so(self):
        told_of = 0
        for index in range(120):
            dice = random.Random(7300 + index)
            nodes = dice.randint(2, 4)
            play = Careful(dice, some_clocks(dice, nodes), nodes, lives=dice.choice((0, 0.04)))
            run = play.grow(45)
            self.assertEqual(lost_puts(run), ())
            for place in dice.sample(range(len(run)), min(6, len(run))):
                node = run[place][0][0][0]
                seen = seen_by(run, place + 1, node)
                for _ in range(4):
                    name = tuple(dice.choice(LABELS) for _ in range(dice.choice((1, 1, 2, 3))))
                    found = may_tell(play.roster, seen, node, name, 2)
                    if found[0] == "told":
                        told_of += not does_keep(seen, node, ())
                        self.assertEqual(found[1], walk_truth(run, place + 1, name, 2))
        self.assertGreater(told_of, 100)


class Handing(Play):
    """A run in which pages are often handed over; the new houses hear of it, the elder ones often forget it."""

    def add(self, event):
        added = Play.add(self, event)
        if added and event[2][0] == "hand":
            (node, life, count), reading, (_, _, to) = event
            self.letter(node, to)
            if self.lives and self.dice.random() < 0.5:
                Play.add(self, ((node, life + 1, 0), pair(self.reading(node)), ("start", (node, life, count - 1))))
        return added

    def deed(self, node):
        if self.dice.random() < 0.15:
            to = self.dice.choice([one for one in range(self.nodes) if one != node])
            return self.house_deed(node, "hand", to)
        return Play.deed(self, node)


class Careful(Play):
    """A run in which each put is let."""

    def add(self, event):
        if event[2][0] == "put":
            tick = (event[0], event[1], ("tick",))
            if told(may_put, self.roster, tuple(self.record.events) + (tick,), event[0][0], *event[2][1:3])[1][0] != "let":
                return False
        return Play.add(self, event)


if __name__ == "__main__":
    unittest.main()
