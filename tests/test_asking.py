"""Points 83 to 85: whom to ask, what asking takes, and that fewer letters never do."""

import random
import unittest

from goodtill.asking import asked_run, is_fresh, letters_heard, way_keepers
from goodtill.finders import may_tell
from goodtill.runs import World, check_run, seen_by, walk_truth
from tests import slow_asking
from tests.build import Rows, chain
from tests.slow_asking import asked_faults, why_not_fresh
from tests.slow_webs import pair
from tests.some_houses import Play, some_clocks
from tests.told import told

ROSTER = ((1, 2), (1, 1), (2, 3))


class Keepers(unittest.TestCase):
    def test_in_the_order_of_the_way(self):
        run = chain(4, (3, 1, 2)).run()
        name = ("a",) * 4
        self.assertEqual(way_keepers(run, 5, name, 0), (0, 3, 1, 2))
        self.assertEqual(way_keepers(run, 3, name, 0), (0, 1, 2))
        self.assertEqual(way_keepers(run, 5, ("a", "a"), 0), (0, 3))
        self.assertEqual(way_keepers(run, 5, ("b", "a"), 0), (0,))

    def test_other_names_are_followed(self):
        rows = chain(2, (1,))
        rows.put(0, (), "c", ("name", ("a", "b")))
        run = rows.run()
        self.assertEqual(way_keepers(run, 5, ("c",), 1), (0, 1))
        self.assertEqual(way_keepers(run, 5, ("c",), 0), (0,))

    def test_each_once_where_it_comes_first(self):
        run = chain(5, (2, 0, 2, 1)).run()
        self.assertEqual(way_keepers(run, 5, ("a",) * 5, 0), (0, 2, 1))

    def test_a_page_under_way_has_nobody(self):
        rows = chain(2, (1,))
        rows.do(1, "hand", (0, 0, 1), 2)
        run = rows.run()
        self.assertEqual(way_keepers(run, 5, ("a", "a"), 0), (0,))
        self.assertEqual(way_keepers((), 5, ("a",), 0), ())

    def test_who_has_seen_a_torn_row_keeps_nothing(self):
        rows = chain(2, (1,))
        rows.letter(1, 0)
        rows.start(1, (1, 0, 1))
        sent = rows.do(1, "send", 0)
        self.assertEqual(way_keepers(rows.run(), 5, ("a", "a"), 0), (0, 1))
        rows.do(0, "hear", sent)
        run = rows.run()
        self.assertEqual(check_run((), run), run)
        self.assertEqual(way_keepers(run, 5, ("a", "a"), 0), (1,))
        self.assertEqual(way_keepers(run, 5, ("q",), 0), ())

    def test_two_keepers_of_one_page_ascend(self):
        rows = Rows()
        rows.start(3)
        rows.start(0)
        rows.do(0, "hand", (), 3)
        rows.do(0, "send", 3)
        rows.do(3, "hear", (0, 0, 2))
        rows.start(0, (0, 0, 0))
        run = rows.run()
        self.assertEqual(check_run((), run), run)
        self.assertEqual(way_keepers(run, 5, ("q",), 0), (0, 3))
        self.assertEqual(way_keepers(run, 3, ("q",), 0), (0,))


class Fresh(unittest.TestCase):
    def base(self):
        rows = chain(3, (1, 2))
        rows.start(4)
        return rows

    def test_one_who_is(self):
        run = self.base().run()
        for node in (3, 4, 5, 31):
            self.assertIs(is_fresh(run, node, ("a",) * 3, 0), True)

    def test_a_page_of_its_own_or_of_nobody(self):
        rows = self.base()
        for node in (0, 1, 2):
            self.assertIs(is_fresh(rows.run(), node, ("a",) * 3, 0), False)
        rows = self.base()
        rows.put(0, (), "b", ("page", 4, ()))
        self.assertIs(is_fresh(rows.run(), 5, ("b",), 0), True)
        self.assertIs(is_fresh(rows.run(), 5, ("b", "c"), 0), False)
        self.assertIs(is_fresh(rows.run(), 5, ("b", "c"), 0), False)
        rows.letter(0, 4)
        self.assertIs(is_fresh(rows.run(), 5, ("b", "c"), 0), True)
        self.assertIs(is_fresh((), 5, ("a",), 0), False)
        self.assertIs(is_fresh((), 0, ("a",), 0), False)

    def test_who_keeps_a_page_beside_the_way_is_fresh(self):
        rows = self.base()
        rows.put(0, (), "b", ("page", 4, ()))
        rows.letter(0, 4)
        self.assertIs(is_fresh(rows.run(), 4, ("a",) * 3, 0), True)
        self.assertIs(is_fresh(rows.run(), 4, ("b", "c"), 0), False)

    def test_one_who_has_written(self):
        rows = self.base()
        rows.do(4, "ask", ("a",), 0)
        self.assertIs(is_fresh(rows.run(), 4, ("a",), 0), True)
        rows.do(4, "send", 9)
        self.assertIs(is_fresh(rows.run(), 4, ("a",), 0), False)
        self.assertIs(is_fresh(rows.run(), 5, ("a",), 0), True)

    def test_a_second_life_of_anybody(self):
        rows = self.base()
        rows.start(6)
        self.assertIs(is_fresh(rows.run(), 4, ("a",), 0), True)
        rows.start(6, (6, 0, 0))
        self.assertIs(is_fresh(rows.run(), 4, ("a",), 0), False)

    def test_promises_that_are_not_spent(self):
        for label, fresh in (("a", False), ("b", True)):
            rows = self.base()
            rows.give(1, (0, 0, 1), label, 5, 3)
            self.assertIs(is_fresh(rows.run(), 4, ("a",) * 3, 0), fresh)
        for now, fresh in ((4, False), (5, True), (6, True)):
            rows = self.base()
            rows.give(1, (0, 0, 1), "a", 5, 3)
            rows.do(1, "tick", at=now, now=now)
            self.assertIs(is_fresh(rows.run(), 4, ("a",) * 3, 0), fresh)

    def test_promises_that_all_have_sworn_off(self):
        rows = self.base()
        give = rows.give(1, (0, 0, 1), "a", 5, 3)
        rows.start(3)
        rows.letter(1, 3)
        rows.do(3, "swear", give)
        self.assertIs(is_fresh(rows.run(), 4, ("a",) * 3, 0), False)
        rows.do(1, "swear", give)
        self.assertIs(is_fresh(rows.run(), 4, ("a",) * 3, 0), True)
        rows = self.base()
        give = rows.give(1, (0, 0, 1), "a", 5, 3)
        rows.start(3)
        rows.letter(1, 3)
        rows.do(3, "pass", give, 6)
        rows.do(3, "swear", give)
        rows.do(1, "swear", give)
        self.assertIs(is_fresh(rows.run(), 4, ("a",) * 3, 0), False)

    def test_a_promise_that_is_no_more_on_its_place(self):
        rows = self.base()
        rows.give(1, (0, 0, 1), "b", 5, 3)
        self.assertIs(is_fresh(rows.run(), 4, ("a", "b"), 0), False)
        rows.put(1, (0, 0, 1), "b", ("value", 1))
        self.assertIs(is_fresh(rows.run(), 4, ("a", "b"), 0), True)


class Letters(unittest.TestCase):
    def test_sends_that_are_heard_count_once(self):
        rows = Rows()
        rows.start(0)
        rows.start(1)
        one = rows.do(0, "send", 1)
        rows.do(1, "hear", one)
        rows.do(0, "send", 1)
        rows.do(1, "hear", one)
        two = rows.do(1, "send", 0)
        rows.do(0, "hear", two)
        run = rows.run()
        self.assertEqual([letters_heard(run, place) for place in range(len(run) + 1)], [2, 2, 2, 1, 1, 1, 1, 0, 0])
        self.assertEqual(letters_heard((), 0), 0)


class Asked(unittest.TestCase):
    def right(self, roster, run, node, name, most):
        asked = asked_run(roster, run, node, name, most)
        self.assertEqual(asked_faults(roster, run, node, name, most, asked, may_tell, check_run, walk_truth), [])
        return asked

    def test_names_of_one_to_six_labels(self):
        for deep in range(1, 7):
            for houses in ((1, 2, 3, 4, 5), (0,), (2, 0), (1, 1, 2)):
                run = chain(deep, houses).run()
                for many in range(1, deep + 1):
                    for node in (7, 31):
                        self.right(ROSTER, run, node, ("a",) * many, 0)
                    self.right(ROSTER, run, 7, ("a",) * (many - 1) + ("q",), 8)

    def test_one_that_has_an_event_already(self):
        rows = chain(3, (1, 2))
        rows.start(7, at=9)
        rows.do(7, "tick", at=10, now=1)
        asked = self.right(ROSTER, rows.run(), 7, ("a",) * 3, 0)
        self.assertEqual(asked[len(rows.row)][0][0], (7, 0, 2))
        asked = self.right(ROSTER, rows.run(), 8, ("a",) * 3, 0)
        self.assertEqual(asked[len(rows.row)][0][0], (8, 0, 0))

    def test_clocks_that_have_gone_on_since(self):
        rows = chain(3, (1, 2))
        rows.start(9, now=(22, 7))
        for roster in ((), ((1, 3), (2, 7), (5, 5)), ((1000, 1000),) * 32):
            self.right(roster, rows.run(), 7, ("a",) * 3, 0)

    def test_who_is_not_fresh_is_refused(self):
        run = chain(3, (1, 2)).run()
        for node in (0, 1, 2):
            self.assertEqual(told(asked_run, ROSTER, run, node, ("a",) * 3, 0), ("Refused", ("a",) * 3))
        self.assertEqual(told(asked_run, ROSTER, (), 5, ("a",), 0), ("Refused", ("a",)))

    def test_drawn_runs(self):
        found = {}
        for seed in range(160):
            dice = random.Random(7000 + seed)
            nodes = dice.randint(2, 5)
            roster = some_clocks(dice, nodes)
            lives = dice.choice((0, 0, 0, 0.03))
            run = Play(dice, roster, nodes, lives, losses=lives > 0, promise=2).grow(dice.randint(0, 30))
            for _ in range(6):
                name = tuple(dice.choice(("a", "b", "c", "bb")) for _ in range(dice.choice((1, 1, 2, 3))))
                node, most = dice.randrange(nodes + 2), dice.randint(0, 3)
                parts = (run, node, name, most)
                self.assertEqual(way_keepers(*parts), slow_asking.way_keepers(*parts), parts)
                why = why_not_fresh(*parts)
                self.assertIs(is_fresh(*parts), not why, parts)
                for fault in why or {0}:
                    found[fault if len(why) < 2 else "more"] = found.get(fault if len(why) < 2 else "more", 0) + 1
                if not why:
                    self.right(roster, *parts)
            for place in range(len(run) + 1):
                self.assertEqual(letters_heard(run, place), slow_asking.letters_heard(run, place))
        self.assertEqual(set(found), {0, 1, 2, 3, 4, "more"})
        self.assertGreater(found[0], 50)

    def test_fewer_letters_never_do(self):
        """Behind runs with a fresh node, nodes that write, promise and hear at random: point 85 (2)."""
        reached = 0
        for seed in range(60):
            dice = random.Random(8100 + seed)
            deep = dice.choice((1, 1, 2))
            run, name, node = chain(deep, (1,)).run(), ("a",) * deep, 2
            many = len(way_keepers(run, node, name, 0))
            world = World(ROSTER)
            for event, instant in run:
                world.add(event, instant)
            for _ in range(60):
                self.some_step(dice, world, node)
            grown = world.run()
            self.assertTrue(is_fresh(run, node, name, 0))
            for place in range(len(run), len(grown) + 1):
                seen = seen_by(grown, place, node)
                answer = may_tell(ROSTER, seen, node, name, 0) if seen else ("not",)
                if answer[0] == "told":
                    reached += 1
                    ids = [event[0] for event in seen]
                    heard = [event[2][1] for event in seen if event[2][0] == "hear"]
                    added = [event[0] for event, _ in grown[len(run):] if event[2][0] == "send" and event[0] in ids]
                    self.assertGreaterEqual(len([send for send in added if send in heard]), many + 1)
                    self.assertEqual(answer[1], walk_truth(grown, place, name, 0))
        self.assertGreater(reached, 100)

    def some_step(self, dice, world, node):
        run = world.run()
        one = dice.choice((0, 1, node))
        own = [(event, instant) for event, instant in run if event[0][0] == one]
        if not own:
            world.add(((one, 0, 0), (0, 1), ("start", None)), run[-1][1])
            return
        (_, life, number), reading, _ = own[-1][0]
        here = [event[0] for event, _ in run if event[2] == ("send", one)]
        deeds = [("send", dice.choice([other for other in (0, 1, node) if other != one]))]
        deeds += [("hear", send) for send in here[-2:]]
        end = pair(dice.randint(2, 9))
        deeds += [("give", dice.choice([(), (0, 0, 1)]), "a", end, dice.choice([0, 1, 2]))]
        told(world.add, ((one, life, number + 1), reading, dice.choice(deeds)), run[-1][1])


if __name__ == "__main__":
    unittest.main()
