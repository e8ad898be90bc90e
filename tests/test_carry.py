"""Points 72 to 74: what a letter carries, how views and letters are joined."""

import random
import unittest

from goodtill.carry import joined_view, letter_events
from goodtill.views import check_view, line_of, past_of, view_of
from tests.build import Rows
from tests.slow_runs import full_past
from tests.some_houses import some_sight
from tests.some_rows import in_some_order
from tests.told import told


class Letters(unittest.TestCase):
    def test_all_that_the_writer_has_seen(self):
        rows = Rows()
        rows.start(0)
        rows.start(1)
        rows.letter(1, 0)
        send = rows.do(0, "send", 2)
        row = rows.events()
        self.assertEqual(letter_events(row, send), row)

    def test_without_what_the_other_has_seen_then(self):
        rows = Rows()
        rows.start(0)
        rows.start(1)
        rows.letter(0, 1)
        rows.do(0, "tick")
        rows.letter(1, 0)
        one = rows.do(0, "send", 1)
        two = rows.do(0, "send", 1)
        row = rows.events()
        # Past the start and the first send of node 0, node 1 has told nothing of it.
        self.assertEqual([event[0] for event in letter_events(row, one)], [(0, 0, 2), (0, 0, 3), (0, 0, 4)])
        self.assertEqual([event[0] for event in letter_events(row, two)], [(0, 0, 2), (0, 0, 3), (0, 0, 4), (0, 0, 5)])
        more = row + (((1, 0, 3), (0, 1), ("hear", one)),)
        self.assertEqual(letter_events(more, two), letter_events(row, two))

    def test_by_the_line_of_the_other(self):
        rows = Rows()
        rows.start(1)
        rows.do(1, "tick")
        rows.start(0)
        rows.start(1, (1, 0, 0))
        rows.do(1, "tick")
        rows.letter(1, 0)
        send = rows.do(0, "send", 1)
        row = rows.events()
        self.assertEqual([event[0] for event in letter_events(row, send)], [(0, 0, 0), (0, 0, 1), (0, 0, 2)])
        turned = row[2:3] + row[:2] + row[3:]
        self.assertEqual([event[0] for event in letter_events(turned, send)], [(0, 0, 0), (0, 0, 1), (0, 0, 2)])

    def test_ids_that_are_no_send(self):
        rows = Rows()
        rows.start(0)
        rows.start(1)
        rows.letter(0, 1)
        for wrong in ((0, 0, 0), (1, 0, 1), (0, 0, 2), (9, 9, 9)):
            self.assertEqual(told(letter_events, rows.events(), wrong), ("Refused", wrong))
        self.assertEqual(told(letter_events, (), (0, 0, 0)), ("Refused", (0, 0, 0)))

    def test_in_the_order_of_the_row(self):
        for index in range(40):
            dice = random.Random(7400 + index)
            _, row = some_sight(dice, 30, 4, 0.05)
            row = in_some_order(dice, row)
            for event in row:
                if event[2][0] == "send":
                    past = full_past(row, event)
                    line = [one for one in line_of(row, event[2][1]) if one[0] in past]
                    known = full_past(row, line[-1]) if line else set()
                    expected = tuple(one for one in row if one[0] in past - known)
                    self.assertEqual(letter_events(row, event[0]), expected)


class Joined(unittest.TestCase):
    def some(self):
        rows = Rows()
        rows.start(0)
        rows.start(1)
        rows.letter(0, 1)
        rows.do(1, "tick")
        return rows.events()

    def test_behind_the_view_as_it_is(self):
        row = self.some()
        self.assertEqual(joined_view(row[:2], row[2:]), row)
        self.assertEqual(joined_view(row, row), row)
        self.assertEqual(joined_view((), ()), ())
        self.assertEqual(joined_view((), row), row)
        turned = (row[1], row[0], row[2])
        self.assertEqual(joined_view(turned, row), turned + row[3:])

    def test_events_more_than_once(self):
        row = self.some()
        self.assertEqual(joined_view((), row[:3] + row[:2] + row[3:] + row), row)

    def test_what_rests_on_nothing_is_refused(self):
        row = self.some()
        for at, event in enumerate(row):
            if event[2][0] != "start":
                self.assertEqual(told(joined_view, (), (event,) + row), ("Refused", event[0]))
                self.assertEqual(told(joined_view, row[:at] if at < 4 else row[:3], (event,))[0], "gives" if at < 4 else "Refused")
        self.assertEqual(told(joined_view, (), row[:2] + row[3:]), ("Refused", (1, 0, 1)))
        self.assertEqual(told(joined_view, row[:2], (row[4], row[3])), ("Refused", (1, 0, 2)))

    def test_nothing_else_is_looked_at(self):
        row = self.some()
        self.assertEqual(joined_view(row[3:], row[:3]), row[3:] + row[:3])
        self.assertEqual(joined_view(row[4:], ()), row[4:])


class Theorem(unittest.TestCase):
    def test_exactly_this_must_be_carried(self):
        tried = 0
        for index in range(60):
            dice = random.Random(7450 + index)
            _, row = some_sight(dice, dice.randint(6, 30), dice.randint(2, 4))
            row = in_some_order(dice, row)
            for event in row:
                if event[2][0] != "send":
                    continue
                send, other = event[0], event[2][1]
                past, carried = past_of(row, send), letter_events(row, send)
                line = line_of(row, other)
                known = [one for one in line if one in past]
                later = line[max(0, len(known) - 1):]
                for newest in dice.sample(later, min(2, len(later))):
                    view = past_of(row, newest[0])
                    joined = joined_view(in_some_order(dice, view), some_letter(dice, carried))
                    self.assertIs(check_view(joined), joined)
                    self.assertTrue(set(past) <= set(joined))
                least = past_of(row, known[-1][0]) if known else ()
                for one in carried:
                    without = tuple(other for other in carried if other != one)
                    tried += 1
                    if one == event:
                        self.assertNotIn(event, joined_view(least, without))
                    else:
                        self.assertEqual(told(joined_view, least, without)[0], "Refused")
        self.assertGreater(tried, 500)

    def test_letters_in_any_order_with_losses(self):
        for index in range(30):
            dice = random.Random(7480 + index)
            _, row = some_sight(dice, 30, 3)
            views = {node: () for node in range(3)}
            for event in row:
                node = event[0][0]
                if event[2][0] == "hear":
                    views[node] = joined_view(views[node], letter_events(row, event[2][1]))
                views[node] = joined_view(views[node], (event,))
                self.assertEqual(set(views[node]), set(past_of(row, event[0])))
            for node in range(3):
                self.assertEqual(set(views[node]), set(view_of(row, node)))


def some_letter(dice, letter):
    """The events of a letter in another order, some of them twice."""
    made = []
    for event in in_some_order(dice, letter):
        made.append(event)
        if dice.random() < 0.2:
            made.append(dice.choice(made))
    return tuple(made)


if __name__ == "__main__":
    unittest.main()
