"""Points 19 and 20: events, entries, rosters."""

import random
import unittest

from goodtill.events import check_entry, check_event, check_roster
from tests import some_events
from tests.told import ANYTHING, nested, told

BAD_WHOLES = (-1, True, False, None, "1", (1,), [1], (), nested(90))
BAD_NODES = BAD_WHOLES + (32, 10 ** 9)
BAD_IDS = (None, True, 0, "a", (), (0, 0), (0, 0, 0, 0), [0, 0, 0], (32, 0, 0), (-1, 0, 0), (True, 0, 0), (0, -1, 0),
           (0, False, 0), (0, 0, -1), (0, 0, True), (0, 0, None), ("0", 0, 0), (0, (0,), 0), ((0, 0, 0),), nested(95))
BAD_FRACTIONS = (None, True, 0, 1, "1", (), (1,), (1, 1, 1), [1, 1], (2, 2), (0, 2), (1, 0), (1, -1), (True, 1),
                 (1, True), (None, 1), (1, "1"), ((1, 1), 1))
BAD_LABELS = (None, True, 0, "", "A", "a-", "abcdefghi", ("a",), ["a"], b"a")
BAD_NAMES = (None, True, "a", "abc", (), ["a"], ("",), ("a", "B"), ("a",) * 7, ("a", None), (("a",),))
GOOD_PLAIN = (("value", 0), ("value", 10 ** 49), ("name", ("a",)), ("name", ("abcdefgh",) * 6))
BAD_PLAIN = (("value",), ("value", -1), ("value", True), ("value", None), ("value", (1,)), ("value", 1, 1),
             ["value", 1], ("name",), ("name", ()), ("name", "a"), ("name", ["a"]), ("name", ("a",), 1),
             ("name", ("a",) * 7), ("name", ("",)), ("other", 1), ("other", ("a",)), (None, ("a",)), ("value", ("a",)), ("name", 1), (1, 1), ("value", 1, ()), (), (("value", 1),),
             "value", 5, True, [], (None, 1), (["value"], 1), nested(50))
GOOD_PAGES = (("page", 0, ()), ("page", 31, (("a", ("value", 1)),)), ("page", 4, (("a", ("name", ("b",))), ("aa", ("value", 1)))),
              ("page", 1, tuple((label, ("value", 1)) for label in "abcdef")))
BAD_PAGES = tuple(("page", node, ()) for node in BAD_NODES) + (
    ("page",), ("page", 0), ("page", 0, (), ()), ["page", 0, ()], ("page", 0, []), ("page", 0, None), ("page", 0, "ab"),
    ("page", 0, (("a",),)), ("page", 0, (("a", ("value", 1), 1),)), ("page", 0, (["a", ("value", 1)],)),
    ("page", 0, (("", ("value", 1)),)), ("page", 0, (("A", ("value", 1)),)), ("page", 0, ((None, ("value", 1)),)),
    ("page", 0, (("a", None),)), ("page", 0, (("a", ("page", 0, ())),)), ("page", 0, (("a", ["value", 1]),)),
    ("page", 0, (("a", ("value", 1)), ("a", ("value", 2)))), ("page", 0, (("b", ("value", 1)), ("a", ("value", 2)))),
    ("page", 0, (("aa", ("value", 1)), ("a", ("value", 2)))),
    ("page", 0, tuple((label, ("value", 1)) for label in "abcdefg")), ("page", 0, ("a", ("value", 1))),
)
GOOD_FOUND = (("value", 0), ("page", 0, ()), ("page", 31, (31, 0, 0)), ("nothing",), ("long",), ("far",))
BAD_FOUND = (None, True, "nothing", ["nothing"], ("nothing", 1), ("long", ()), ("far", 1), (), ("value",), ("value", -1),
             ("value", True), ("page", 0), ("page", 32, ()), ("page", 0, None), ("page", 0, [1]), ("page", 0, (1,)),
             ("page", 0, (), ()), ("other",), ("other", 0, ()), ("value", 0, ()), ("page", 1), ("value", ()), (("far",),), ("name", ("a",)))

GOOD_PARTS = {
    "kept": (None, (0, 0, 0), (31, 10 ** 7, 10 ** 7)),
    "id": ((0, 0, 0), (31, 0, 9)),
    "node": (0, 31),
    "term": ((), (0, 0, 0), (31, 5, 5)),
    "label": ("a", "zzzzzzzz"),
    "fraction": ((0, 1), (-5, 3), (10 ** 60 - 1, 10 ** 60)),
    "name": (("a",), ("a", "b", "c", "d", "e", "f")),
    "most": (0, 8),
    "entry": (None,) + GOOD_PLAIN + GOOD_PAGES,
    "answer": tuple((found, ()) for found in GOOD_FOUND) + ((("far",), (("a",),) * 9),),
}
BAD_PARTS = {
    "kept": tuple(one for one in BAD_IDS if one is not None) + ((),),
    "id": BAD_IDS,
    "node": BAD_NODES,
    "term": tuple(one for one in BAD_IDS if one != ()) + ([],),
    "label": BAD_LABELS,
    "fraction": BAD_FRACTIONS,
    "name": BAD_NAMES,
    "most": BAD_WHOLES + (9, 10 ** 9),
    "entry": BAD_PLAIN + BAD_PAGES,
    "answer": tuple((found, ()) for found in BAD_FOUND) + (
        ("nothing", ()), (("nothing",),), (("nothing",), (), ()), [("nothing",), ()], (("nothing",), []), None, (), True,
        (("nothing",), None), (("nothing",), ("a",)), (("nothing",), ((),)), (("nothing",), (("a",) * 7,)),
        (("far",), (("a",),) * 10), (("far",), (["a"],)), (("far",), "ab")),
}
DEEDS = {
    "start": ("kept",), "tick": (), "send": ("node",), "hear": ("id",), "put": ("term", "label", "entry"),
    "give": ("term", "label", "fraction", "node"), "pass": ("id", "node"), "swear": ("id",), "hand": ("term", "node"),
    "tell": ("name", "most", "answer"), "ask": ("name", "most"),
}


class Events(unittest.TestCase):
    def good(self, deed):
        event = ((1, 2, 3), (4, 5), deed)
        self.assertIs(told(check_event, event)[1], event, event)

    def bad(self, deed):
        self.assertEqual(told(check_event, ((1, 2, 3), (4, 5), deed)), ("BadEvent", 2), deed)

    def test_each_part_of_each_deed(self):
        for kind, parts in DEEDS.items():
            base = tuple(GOOD_PARTS[part][-1] for part in parts)
            self.good((kind,) + base)
            for at, part in enumerate(parts):
                for value in GOOD_PARTS[part]:
                    self.good((kind,) + base[:at] + (value,) + base[at + 1:])
                for value in BAD_PARTS[part]:
                    self.bad((kind,) + base[:at] + (value,) + base[at + 1:])

    def test_one_part_more_one_fewer_and_lists(self):
        for kind, parts in DEEDS.items():
            base = tuple(GOOD_PARTS[part][0] for part in parts)
            self.good((kind,) + base)
            self.bad((kind,) + base + (0,))
            self.bad((kind,) + base + (None,))
            self.bad([kind] + list(base))
            self.bad((kind, base))
            if base:
                self.bad((kind,) + base[:-1])
            for other in ("", kind.upper(), kind + "s", None, 0, True, (kind,), [kind]):
                self.bad((other,) + base)
        for deed in ((), [], None, "tick", ("tock",), 5, True, nested(97)):
            self.bad(deed)

    def test_the_first_fault_is_told(self):
        good = ((1, 2, 3), (4, 5), ("tick",))
        for value in ANYTHING + (good[:2], good + (1,), list(good), (good,)):
            self.assertEqual(told(check_event, value), ("BadEvent", told_of_tuple(value)), value)
        for bad_id in BAD_IDS:
            for reading in ((4, 5), (8, 10)):
                for deed in (("tick",), ("tock",)):
                    self.assertEqual(told(check_event, (bad_id, reading, deed)), ("BadEvent", 0))
        for reading in BAD_FRACTIONS:
            for deed in (("tick",), None):
                self.assertEqual(told(check_event, ((1, 2, 3), reading, deed)), ("BadEvent", 1))

    def test_random_events(self):
        dice = random.Random(21)
        for _ in range(300):
            event = some_events.event(dice)
            self.assertIs(check_event(value=event), event)


def told_of_tuple(value):
    """The fault of a value that is no event, and has an id and a reading if it has an id at all."""
    if not isinstance(value, tuple) or len(value) != 3:
        return -1
    return 2 if value[0] == (0, 0, 0) else 0


class Entries(unittest.TestCase):
    def test_entries(self):
        for value in GOOD_PARTS["entry"]:
            self.assertIs(check_entry(value), value)
        for value in BAD_PARTS["entry"]:
            self.assertEqual(told(check_entry, value), ("BadEvent", 2), value)

    def test_any_value(self):
        for value in ANYTHING:
            if value is None or value == ("value", 1):
                self.assertIs(check_entry(value), value)
            else:
                self.assertEqual(told(check_entry, value), ("BadEvent", 2))


class Rosters(unittest.TestCase):
    def test_rosters_are_returned_as_they_are(self):
        for many in (0, 1, 2, 31, 32):
            for pair in ((1, 1), (1, 1000), (1000, 1000), (3, 7)):
                roster = (pair,) * many
                self.assertIs(check_roster(roster), roster)

    def test_too_many(self):
        self.assertEqual(told(check_roster, ((1, 1),) * 33), ("BadRoster", 32))
        self.assertEqual(told(check_roster, ((1, 1),) * 160), ("BadRoster", 32))
        self.assertEqual(told(check_roster, ((1, 1),) * 32 + (None,)), ("BadRoster", 32))
        self.assertEqual(told(check_roster, ((1, 1),) * 31 + (None, None)), ("BadRoster", 31))

    def test_one_pair_wrong(self):
        wrong = ((0, 1), (2, 1), (1, 1001), (1001, 1001), (-1, 1), (True, 1), (1, True), (1,), (1, 1, 1), [1, 1], (),
                 None, 1, "11", ("1", "1"), (None, 1), (1, None), (1, (1,)))
        for pair in wrong:
            for at in (0, 1, 15, 31):
                roster = ((1, 2),) * at + (pair,) + ((1, 2),) * (31 - at)
                self.assertEqual(told(check_roster, roster), ("BadRoster", at), pair)
            self.assertEqual(told(check_roster, (pair, None, (0, 0))), ("BadRoster", 0))

    def test_no_tuples(self):
        for value in ANYTHING:
            if not isinstance(value, tuple):
                self.assertEqual(told(check_roster, value), ("BadRoster", -1))
        self.assertEqual(told(check_roster, [(1, 1)]), ("BadRoster", -1))


if __name__ == "__main__":
    unittest.main()
