"""Points 67 and 68: who must still swear, and what is seen when some swear at once."""

import random
import unittest

from goodtill.houses import may_put, own_end, put_wait
from goodtill.recall import fewest_swears, left_to_swear, sworn_view
from goodtill.views import check_view, view_of
from goodtill.webs import positive_ring
from tests.build import Rows
from tests.test_houses import PAGE, given, houses
from tests.told import told


def passed(*nodes):
    """House 0 has promised "a" to 1, who has passed it to these nodes and told them and the house of it."""
    rows, give = given()
    rows.do(1, "hear", (0, 0, 4))
    for node in nodes:
        rows.start(node)
        rows.do(1, "pass", give, node)
        rows.letter(1, node)
    rows.letter(1, 0)
    return rows, give


class Left(unittest.TestCase):
    def test_rows_and_holders_in_their_order(self):
        rows = Rows()
        rows.start(0)
        rows.start(1)
        rows.letter(1, 0)
        term = rows.put(0, (), "p", PAGE)
        one = rows.give(0, (), "p", 9, 3)
        two = rows.give(0, (), "p", 7, 1)
        three = rows.give(0, term, "q", 5, 2)
        rows.do(0, "pass", one, 2)
        rows.do(0, "send", 1)
        row = rows.events()
        expected = ((((), "p"), ((one, (2, 3)), (two, (1,)))), ((term, "q"), ((three, (2,)),)))
        self.assertEqual(left_to_swear((), row, 0, term, "q"), expected)
        self.assertEqual(fewest_swears((), row, 0, term, "q"), 1)
        self.assertEqual(left_to_swear((), row, 0, (), "p"), expected[:1])
        self.assertEqual(fewest_swears((), row, 0, (), "p"), 3)
        late = row + (rows.event(0, "tick", at=5),)
        self.assertEqual((left_to_swear((), late, 0, term, "q"), fewest_swears((), late, 0, term, "q")), ((), 0))
        self.assertEqual(left_to_swear((), late, 0, (), "p"), expected[:1])
        late = row + (rows.event(0, "tick", at=7),)
        self.assertEqual(left_to_swear((), late, 0, (), "p"), ((((), "p"), ((one, (2, 3)),)),))

    def test_those_that_are_not_alive_are_left_out(self):
        rows, give = given(more=(("give", (), "a", (2, 1), 1),))
        self.assertEqual(left_to_swear((), rows.events(), 0, (), "a"), ((((), "a"), ((give, (1,)), ((0, 0, 4), (1,)))),))
        row = rows.events() + (rows.event(0, "tick", at=2),)
        self.assertEqual(left_to_swear((), row, 0, (), "a"), ((((), "a"), ((give, (1,)),)),))

    def test_who_has_sworn_is_left_out(self):
        rows, give = passed(2, 3)
        self.assertEqual(left_to_swear((), rows.events(), 0, (), "a"), ((((), "a"), ((give, (1, 2, 3)),)),))
        rows.do(2, "swear", give)
        self.assertEqual(fewest_swears((), rows.events(), 0, (), "a"), 3)
        rows.letter(2, 0)
        self.assertEqual(left_to_swear((), rows.events(), 0, (), "a"), ((((), "a"), ((give, (1, 3)),)),))
        self.assertEqual(fewest_swears((), rows.events(), 0, (), "a"), 2)

    def test_let_at_once(self):
        rows, _ = given()
        for place in (((), "b"), ((), "a")):
            row = rows.events()[:-1]
            self.assertEqual(left_to_swear((), row, 0, *place), ())
            self.assertEqual(fewest_swears((), row, 0, *place), 0)
        rows = Rows()
        rows.start(0)
        rows.start(1)
        rows.letter(1, 0)
        term = rows.put(0, (), "p", PAGE)
        rows.give(0, term, "q", 9, 1)
        rows.give(0, (), "p", 9, 1)
        rows.do(0, "send", 1)
        self.assertEqual(fewest_swears((), rows.events(), 0, term, "q"), 1)
        rows.put(0, (), "p", None)
        self.assertEqual((left_to_swear((), rows.events(), 0, term, "q"), fewest_swears((), rows.events(), 0, term, "q")), ((), 0))

    def test_errors(self):
        rows, _ = given()
        for function in (left_to_swear, fewest_swears):
            self.assertEqual(told(function, (), rows.events(), 7, (9, 9, 9), "a"), ("Refused", 7))
            self.assertEqual(told(function, (), rows.events(), 1, (9, 9, 9), "a"), ("Refused", (9, 9, 9)))
            self.assertEqual(told(function, (), rows.events(), 0, (0, 0, 1), "a"), ("Refused", (0, 0, 1)))
            self.assertEqual(told(function, (), rows.events(), 1, (), "a"), ("Refused", ((), "a")))


class Sworn(unittest.TestCase):
    def test_none_some_and_all(self):
        rows, give = passed(2, 3)
        row = rows.events()
        self.assertEqual(sworn_view(row, (), 0), row)
        some = sworn_view(row, ((3, give), (1, give)), 0)
        self.assertEqual(some[:len(row)], row)
        self.assertEqual([(event[0], event[2]) for event in some[len(row):]], [
            ((3, 0, 2), ("swear", give)), ((3, 0, 3), ("send", 0)), ((1, 0, 8), ("swear", give)), ((1, 0, 9), ("send", 0)),
            ((0, 0, 6), ("hear", (3, 0, 3))), ((0, 0, 7), ("hear", (1, 0, 9)))])
        self.assertEqual(left_to_swear((), some, 0, (), "a"), ((((), "a"), ((give, (2,)),)),))
        self.assertEqual(may_put((), some, 0, (), "a"), ("not", (give,)))
        every = sworn_view(row, ((3, give), (1, give), (2, give)), 0)
        self.assertEqual(may_put((), every, 0, (), "a"), ("let", ((), "a")))

    def test_readings_and_lives_are_those_of_the_newest_events(self):
        rows, give = given()
        rows.do(1, "hear", (0, 0, 4), at=(7, 3))
        rows.start(1, (1, 0, 2), life=4, at=(7, 3))
        rows.do(0, "tick", at=(9, 2))
        new = sworn_view(rows.events(), ((1, give), (0, give)), 0)[len(rows.row):]
        expected = (((1, 4, 1), (7, 3), ("swear", give)), ((1, 4, 2), (7, 3), ("send", 0)), ((0, 0, 6), (9, 2), ("swear", give)),
                    ((0, 0, 7), (9, 2), ("hear", (1, 4, 2))))
        self.assertEqual(new, expected)

    def test_the_node_itself_writes_to_nobody(self):
        rows, give = given()
        new = sworn_view(rows.events(), ((0, give),), 0)[len(rows.row):]
        self.assertEqual(new, (((0, 0, 5), (0, 1), ("swear", give)),))
        new = sworn_view(rows.events(), ((0, give),), 1)[len(rows.row):]
        self.assertEqual(new, (((0, 0, 5), (0, 1), ("swear", give)), ((0, 0, 6), (0, 1), ("send", 1)), ((1, 0, 2), (0, 1), ("hear", (0, 0, 6)))))

    def test_several_promises_of_one_holder(self):
        rows, give = given(more=(("give", (), "a", (3, 1), 1),))
        rows.do(1, "hear", (0, 0, 5))
        row = sworn_view(rows.events(), ((1, (0, 0, 4)), (1, give)), 0)
        kinds = [event[2][0] for event in row[len(rows.row):]]
        self.assertEqual(kinds, ["swear", "send", "swear", "send", "hear", "hear"])
        self.assertEqual(may_put((), row, 0, (), "a"), ("let", ((), "a")))

    def test_each_pair_at_fault_and_the_first_of_several(self):
        rows, give = passed(2)
        rows.do(1, "pass", give, 3)
        rows.start(3)
        rows.start(4)
        row = rows.events()
        self.assertEqual(told(sworn_view, row, (), 7), ("Refused", 7))
        self.assertEqual(told(sworn_view, row, ((5, give),), 7), ("Refused", 7))
        faults = ((5, give), (3, give), (1, (0, 0, 1)), (1, (0, 0, 9)), (1, (9, 9, 9)), (4, give))
        good = (2, give)
        for fault in faults:
            self.assertEqual(told(sworn_view, row, (fault,), 0), ("Refused", fault))
            self.assertEqual(told(sworn_view, row, (good, fault, good), 0), ("Refused", fault))
            self.assertEqual(told(sworn_view, row, (fault,) + faults, 0), ("Refused", fault))
        self.assertEqual(told(sworn_view, row, (good, (1, give), good, (3, give)), 0), ("Refused", good))
        self.assertEqual(told(sworn_view, row, ((1, give), good), 0)[0], "gives")
        rows.letter(1, 3)
        self.assertEqual(told(sworn_view, rows.events(), ((3, give),), 0)[0], "gives")
        rows.do(3, "swear", give)
        self.assertEqual(told(sworn_view, rows.events(), ((3, give),), 0), ("Refused", (3, give)))
        rows.do(0, "hand", (), 1)
        self.assertEqual(told(sworn_view, rows.events(), ((0, give),), 1), ("Refused", (0, give)))
        self.assertEqual(told(sworn_view, rows.events()[:-1], ((0, give),), 1)[0], "gives")

    def test_one_that_does_not_hold_it_but_knows_it(self):
        rows, give = given()
        rows.do(1, "hear", (0, 0, 4))
        rows.start(4)
        rows.letter(1, 4)
        self.assertEqual(told(sworn_view, rows.events(), ((4, give),), 0), ("Refused", (4, give)))

    def test_what_others_do_counts_by_the_whole_row(self):
        rows, give = given()
        row = rows.events()
        self.assertEqual(told(sworn_view, row, ((1, give),), 0), ("Refused", (1, give)))
        rows.do(1, "hear", (0, 0, 4))
        self.assertEqual(len(sworn_view(rows.events(), ((1, give),), 0)), len(row) + 4)


class Theorem(unittest.TestCase):
    def test_at_random_rows(self):
        tried = let = 0
        for dice, roster, row, node, view, places in houses(150, 6800):
            for place in places:
                left = left_to_swear(roster, view, node, *place)
                if not left:
                    continue
                self.assertEqual(fewest_swears(roster, view, node, *place), min(sum(len(nodes) for _, nodes in pairs) for _, pairs in left))
                pairs = sorted({(holder, give) for _, rows in left for give, nodes in rows for holder in nodes})
                able = [pair for pair in pairs if told(sworn_view, view, (pair,), node)[0] == "gives"]
                dice.shuffle(able)
                some = tuple(able[:dice.randint(0, len(able))])
                new = sworn_view(view, some, node)
                tried += 1
                self.assertIs(check_view(new), new)
                self.assertIsNone(positive_ring(roster, new))
                self.assertEqual(view_of(new, node), new)
                self.assertEqual(left_to_swear(roster, new, node, *place), self.without(left, some))
                found = may_put(roster, new, node, *place)
                free = [at for at, rows in left if all((holder, give) in some for give, nodes in rows for holder in nodes)]
                self.assertEqual(found, ("let", free[0]) if free else ("not", found[1]))
                let += bool(free)
                kept = all(any((holder, give) not in some for holder in nodes) for _, rows in left for give, nodes in rows)
                if kept:
                    self.assertEqual(found, may_put(roster, view, node, *place))
                    self.assertEqual(put_wait(roster, new, node, *place), put_wait(roster, view, node, *place))
                    self.assertEqual(own_end(new, node, *place), own_end(view, node, *place))
        self.assertGreater(tried, 100)
        self.assertGreater(let, 20)

    def without(self, left, some):
        rows = []
        for place, pairs in left:
            pairs = [(give, tuple(holder for holder in nodes if (holder, give) not in some)) for give, nodes in pairs]
            rows.append((place, tuple(pair for pair in pairs if pair[1])))
        return tuple(rows) if all(pairs for _, pairs in rows) else ()


if __name__ == "__main__":
    unittest.main()
