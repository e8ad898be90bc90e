"""Points 77 and 78: journals, what stops leave of them, and their texts."""

import random
import unittest

from goodtill.journal import Journal, left_of, read_journal
from goodtill.wire import encode_event
from tests import some_events
from tests.some_houses import some_sight
from tests.told import ANYTHING, told

START = ((5, 0, 0), (0, 1), ("start", None))
TICK = ((5, 0, 1), (1, 2), ("tick",))
OTHER = ((4, 0, 0), (0, 1), ("start", None))
LETTER = ((4, 0, 1), (0, 1), ("send", 5))
HEARD = ((5, 0, 2), (1, 1), ("hear", (4, 0, 1)))


def journal_of(node, rows):
    journal = Journal(node)
    for event in rows:
        journal.write(event)
    return journal


def slow_text(node, rows):
    """The text of a journal, by the words of the document."""
    lines = ["node " + str(node)]
    for event in rows:
        octets = encode_event(event)
        check = 0
        for at in range(len(octets)):
            check += octets[at] * (at + 1)
        lines.append(bytes(octets).hex() + " " + str(check % 9973))
    return "\n".join(lines) + "\n"


def slow_left(rows, node):
    """What is left of rows: all up to the last event of the node's line."""
    own = [event[0] for event in rows if event[0][0] == node]
    if not own:
        return ()
    return tuple(rows[:[event[0] for event in rows].index(max(own)) + 1])


def some_rows(dice, many):
    """Events of all kinds that a journal takes, each behind its steps back; of several nodes and lives."""
    rows, ids = [], []
    for _ in range(many * 4):
        if len(rows) == many:
            break
        event_id, reading, deed = some_events.event(dice)
        if ids and dice.random() < 0.8:
            node, life, number = dice.choice(ids)
            event_id = (node, life, number + 1) if deed[0] != "start" else (node, life + 1, 0)
        if deed[0] == "start":
            deed = ("start", dice.choice(ids + [None]))
        elif not ids:
            continue
        elif deed[0] == "hear":
            deed = ("hear", dice.choice(ids))
        event = (event_id, reading, deed)
        if deed[0] != "start" and (event_id[0], event_id[1], event_id[2] - 1) not in ids or event_id in ids:
            continue
        rows.append(event)
        ids.append(event_id)
    return tuple(rows)


class Journals(unittest.TestCase):
    def test_writes_and_cuts(self):
        journal = Journal(5)
        self.assertEqual(journal.cuts(), (0, 0))
        self.assertIsNone(journal.flush())
        self.assertEqual(journal.cuts(), (0, 0))
        for event in (START, TICK):
            self.assertIsNone(journal.write(event))
        self.assertEqual(journal.cuts(), (0, 2))
        self.assertIsNone(journal.flush())
        self.assertEqual(journal.cuts(), (2, 2))
        journal.write(OTHER)
        self.assertEqual(journal.cuts(), (2, 3))
        journal.flush()
        self.assertEqual(journal.cuts(), (3, 3))

    def test_writes_that_cannot_be_done_change_nothing(self):
        journal = journal_of(5, (START, OTHER))
        cases = (
            (START, (5, 0, 0)),
            ((OTHER[0], (3, 1), ("tick",)), (4, 0, 0)),
            (HEARD, (5, 0, 1)),
            (((5, 0, 1), (0, 1), ("hear", (4, 0, 1))), (4, 0, 1)),
            (((5, 0, 3), (0, 1), ("hear", (4, 0, 9))), (5, 0, 2)),
            (((5, 0, 1), (0, 1), ("hear", (5, 0, 1))), (5, 0, 1)),
            (((5, 1, 0), (0, 1), ("start", (5, 0, 4))), (5, 0, 4)),
            (((9, 0, 1), (0, 1), ("tick",)), (9, 0, 0)),
            (((9, 0, 0), (0, 1), ("tick",)), (9, 0, -1)),
            (((5, 0, 0), (0, 1), ("hear", (8, 0, 0))), (5, 0, 0)),
        )
        text = journal.text()
        for event, at in cases:
            self.assertEqual(told(journal.write, event), ("Refused", at))
            self.assertEqual((journal.text(), journal.cuts()), (text, (0, 2)))

    def test_nothing_else_is_asked_of_a_row(self):
        strange = (
            ((7, 3, 0), (9, 1), ("start", None)),
            ((7, 1, 0), (99, 1), ("start", (7, 3, 0))),
            ((7, 1, 1), (1, 1), ("send", 7)),
            ((5, 0, 0), (0, 1), ("start", (7, 1, 1))),
            ((5, 0, 1), (0, 1), ("hear", (7, 3, 0))),
            ((5, 0, 2), (0, 1), ("swear", (7, 9, 9))),
        )
        journal = journal_of(5, strange)
        self.assertEqual(journal.cuts(), (0, 6))
        self.assertEqual(read_journal(journal.text()), strange)

    def test_what_is_left_ends_with_the_last_of_the_line(self):
        later = ((5, 2, 0), (0, 1), ("start", (5, 0, 0)))
        elder = ((5, 1, 0), (0, 1), ("start", None))
        rows = (START, OTHER, later, LETTER, elder)
        self.assertEqual([left_of(rows[:many], 5) for many in range(6)], [(), rows[:1], rows[:1], rows[:3], rows[:3], rows[:3]])
        self.assertEqual(left_of(rows, 4), rows[:4])
        self.assertEqual(left_of(rows, 6), ())
        self.assertEqual(read_journal(journal_of(5, rows).text()), rows[:3])

    def test_texts_of_all_kinds_of_events(self):
        for seed in range(60):
            dice = random.Random(seed)
            rows = some_rows(dice, dice.randint(0, 30))
            node = dice.choice([event[0][0] for event in rows] + [0, 9, 31])
            text = journal_of(node, rows).text()
            self.assertEqual(text, slow_text(node, rows))
            self.assertEqual(read_journal(text), slow_left(rows, node))

    def test_texts_cut_at_any_sign(self):
        for seed in range(8):
            dice = random.Random(100 + seed)
            row = some_sight(dice, 14, 3, 0.1)[1]
            text = journal_of(1, row).text()
            for many in range(len(text) + 1):
                whole = text[:many].count("\n")
                expected = () if whole == 0 else slow_left(row[:whole - 1], 1)
                self.assertEqual(read_journal(text[:many]), expected)

    def test_the_rest_behind_the_last_line_feed_is_left_out(self):
        text = journal_of(5, (START, TICK)).text()
        for rest in ("x", "node 5", " ", "zz 99", "\r", "05"):
            self.assertEqual(read_journal(text + rest), (START, TICK))
        for short in ("", "node 5", "anything", "-1", " "):
            self.assertEqual(read_journal(short), ())

    def test_first_lines(self):
        for node in range(32):
            self.assertEqual(read_journal(f"node {node}\n"), ())
        for line in ("", "node", "node ", "node 32", "node 05", "node -1", "Node 5", "node  5", "node 5 ", " node 5", "node 5\r",
                     "05000000010000 10", "node +5", "node 5x", "node 00", "node\t5"):
            self.assertEqual(told(read_journal, line + "\n"), ("BadText", 0), line)
            self.assertEqual(told(read_journal, line + "\n05000000010000 10\n"), ("BadText", 0), line)

    def test_lines_left_out_doubled_exchanged(self):
        rows = (START, TICK, OTHER, LETTER, HEARD)
        lines = journal_of(5, rows).text().split("\n")[:-1]

        def read(*order):
            return told(read_journal, "".join(lines[at] + "\n" for at in order))

        self.assertEqual(read(0, 1, 2, 3, 4, 5), ("gives", rows))
        self.assertEqual(read(0, 3, 4, 1, 2, 5), ("gives", (OTHER, LETTER, START, TICK, HEARD)))
        self.assertEqual(read(0, 2, 3, 4, 5), ("BadText", 1))
        self.assertEqual(read(0, 1, 3, 4, 5), ("BadText", 4))
        self.assertEqual(read(0, 1, 2, 3, 5), ("BadText", 4))
        self.assertEqual(read(0, 1, 1, 2), ("BadText", 2))
        self.assertEqual(read(0, 1, 2, 3, 4, 5, 5), ("BadText", 6))
        self.assertEqual(read(0, 2, 1), ("BadText", 1))
        self.assertEqual(read(0, 0), ("BadText", 1))
        self.assertEqual(read(1, 2), ("BadText", 0))

    def test_any_sign_changed(self):
        text = journal_of(5, (START, ((5, 0, 1), (1, 2), ("put", (), "ab", ("value", 300))))).text()
        for at, old in enumerate(text):
            line = text[:at].count("\n")
            for new in "0123456789abcdefABFx -+\n":
                if new == old or (at < 6 and new != "\n"):
                    continue
                changed = text[:at] + new + text[at + 1:]
                lines = changed.split("\n")[:-1]
                outcome = told(read_journal, changed)
                fault = next((k for k in range(1, len(lines) + 1) if not self.is_text(lines[:k])), None)
                self.assertEqual(outcome[0], "gives" if fault is None else "BadText", changed)
                if fault is not None:
                    self.assertEqual(outcome[1], fault - 1, changed)
                if new != "\n" and old != "\n" and line > 0:
                    self.assertEqual(outcome, ("BadText", line), changed)

    def is_text(self, lines):
        """Whether some lines are the text of a journal, found by writing it again."""
        outcome = told(read_journal, "".join(line + "\n" for line in lines))
        if outcome[0] != "gives" or lines[0] not in [f"node {node}" for node in range(32)]:
            return False
        node = int(lines[0][5:])
        rows = outcome[1]
        return slow_text(node, rows).split("\n")[:len(lines)] == lines[:len(rows) + 1]

    def test_rows_that_are_told_in_another_way(self):
        for line in ("05000000010000 010", "05000000010000  10", "05000000010000 10 ", "05000000010000", "05000000010000 ",
                     "0500000001000 10", "0500000001000a 10", "05000000010000 9983", " 10", "", " ", "10", "05000000010000 -10",
                     "05 000000010000 10", "0x000000010000 10", "05000000010000\t10", "05000000010000 1\u0660", "\uff10500 0"):
            self.assertEqual(told(read_journal, "node 5\n" + line + "\n"), ("BadText", 1), line)

    def test_values_that_are_no_text(self):
        for value in ANYTHING:
            if isinstance(value, str):
                self.assertEqual(told(read_journal, value), ("gives", ()))
            else:
                self.assertEqual(told(read_journal, value), ("BadText", -1))


if __name__ == "__main__":
    unittest.main()
