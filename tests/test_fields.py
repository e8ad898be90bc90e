"""Points 86 to 90: fields, what their nodes do, and that no answer in them is stale."""

import random
import unittest

from goodtill.errors import BadDeed
from goodtill.fields import Field
from goodtill.houses import may_put
from goodtill.judging import has_right
from goodtill.runs import check_run, is_stale, lost_puts, record_of_run, seen_by
from tests.slow_fields import SlowField
from tests.slow_webs import number
from tests.some_fields import some_deed
from tests.some_houses import some_clocks
from tests.told import ANYTHING, told

ROSTER = ((1, 1), (1, 2), (2, 3))
FIVE = ("value", 5)
LENGTH = (10, 1)


def kinds(field, start=0):
    return [event[2][0] for event, _ in field.run()[start:]]


def led(deeds, roster=ROSTER, length=LENGTH):
    field = Field(roster, length)
    for deed in deeds:
        field.do(deed)
    return field


def shown(field):
    return (field.run(), field.under_way(), field.done())


class Deeds(unittest.TestCase):
    def bad(self, field, *deeds):
        before = shown(field)
        for deed in deeds:
            self.assertEqual(told(field.do, deed), ("BadDeed", 0), deed)
            self.assertEqual(shown(field), before, deed)

    def test_any_value(self):
        self.bad(Field(ROSTER, LENGTH), *ANYTHING)
        self.bad(Field(ROSTER, LENGTH), ("tick",), ("send", 1), ("stop",), (0,), ([],), ("ask",), ["time", (1, 1)], (("time",), 1))

    def test_nothing_at_first(self):
        self.assertEqual(shown(Field(ROSTER, LENGTH)), ((), (), ()))

    def test_time(self):
        field = led([("time", (0, 1)), ("time", (7, 2))])
        self.assertEqual(shown(field), ((), (), ()))
        self.bad(field, ("time", (-1, 2)), ("time", 1), ("time", (2, 2)), ("time", (1, 1), 0), ("time",), ("time", None), ("time", (True, 1)))
        field.do(("ask", 2, ("a",), 0))
        self.assertEqual(field.run()[0], (((2, 0, 0), (7, 4), ("start", None)), (7, 2)))
        self.assertIsNone(field.do(("time", (1, 1))))

    def test_clocks(self):
        field = led([("clock", 2, (3, 1)), ("time", (6, 1)), ("clock", 2, (5, 2)), ("time", (5, 1)), ("clock", 2, (2, 1)), ("time", (2, 1))])
        field.do(("ask", 2, ("a",), 0))
        self.assertEqual(field.run()[0], (((2, 0, 0), (5, 1), ("start", None)), (13, 1)))
        self.bad(field, ("clock", 2, (19, 10)), ("clock", 2, (31, 10)), ("clock", 0, (2, 1)), ("clock", 0, (1, 2)), ("clock", 9, (2, 1)),
                 ("clock", 32, (1, 1)), ("clock", -1, (1, 1)), ("clock", 0, 1), ("clock", 0), ("clock", True, (1, 1)))
        field.do(("clock", 9, (1, 1)))
        self.assertEqual(check_run(ROSTER, field.run()), field.run())

    def test_asks(self):
        field = Field(ROSTER, LENGTH)
        self.bad(field, ("ask", 32, ("a",), 0), ("ask", 1, (), 0), ("ask", 1, ("a",), 9), ("ask", 1, ("a",), -1), ("ask", 1, ("A",), 0),
                 ("ask", 1, ("a",)), ("ask", 1, ["a"], 0), ("ask", None, ("a",), 0), ("ask", 1, ("a",) * 7, 0))
        field.do(("ask", 1, ("a",), 8))
        self.assertEqual([event for event, _ in field.run()], [
            ((1, 0, 0), (0, 1), ("start", None)), ((1, 0, 1), (0, 1), ("ask", ("a",), 8)), ((1, 0, 2), (0, 1), ("send", 0))])
        self.assertEqual(field.under_way(), (((1, 0, 2), 0),))

    def test_wishes(self):
        field = Field(ROSTER, LENGTH)
        self.bad(field, ("wish", 1, (), "a", FIVE), ("wish", 0, (0, 0, 1), "a", FIVE), ("wish", 0, (), "a", None), ("wish", 0, (), "A", FIVE),
                 ("wish", 0, (), "a", ("value", -1)), ("wish", 0, (), "a"), ("wish", 0, (), ("a",), FIVE), ("wish", 0, None, "a", FIVE))
        wish = ("wish", 0, (), "a", FIVE)
        field.do(wish)
        self.assertEqual([event[2] for event, _ in field.run()], [("start", None), ("tick",), ("put", (), "a", FIVE)])
        self.assertEqual(field.done(), ((wish, (0, 1), (0, 1)),))
        self.assertIs(field.done()[0][0], wish)
        self.bad(field, wish, ("wish", 0, (), "b", None), ("wish", 0, (0, 0, 2), "b", FIVE))
        field.do(("wish", 0, (), "a", ("page", 1, ())))
        field.do(("wish", 0, (), "a", ("page", 1, ())))
        self.assertEqual(kinds(field, 3), ["tick", "put", "tick", "put"])

    def test_pages_five_deep_alone(self):
        field = led([("wish", 0, (), "a", ("page", 0, ()))])
        for deep in range(2, 6):
            field.do(("wish", 0, field.run()[-1][0][0], "a", ("page", 0, ())))
        last = field.run()[-1][0][0]
        self.bad(field, ("wish", 0, last, "a", ("page", 0, ())))
        field.do(("wish", 0, last, "a", FIVE))
        self.assertEqual(field.run()[-1][0][2], ("put", last, "a", FIVE))

    def test_hands(self):
        field = Field(ROSTER, LENGTH)
        self.bad(field, ("hand", 0, (), 0), ("hand", 1, (), 0), ("hand", 0, (0, 0, 0), 1), ("hand", 0, (), 32), ("hand", 0, ()))
        field.do(("hand", 0, (), 1))
        self.assertEqual([event[2] for event, _ in field.run()], [("start", None), ("hand", (), 1), ("send", 1)])
        self.bad(field, ("hand", 0, (), 2), ("hand", 1, (), 2), ("wish", 0, (), "a", FIVE))
        field.do(("bring", 0))
        field.do(("wish", 1, (), "a", FIVE))
        self.assertEqual(field.run()[-1][0][2], ("put", (), "a", FIVE))

    def given(self):
        return led([("wish", 0, (), "a", FIVE), ("ask", 1, ("a",), 0), ("bring", 0), ("bring", 0)])

    def test_forgetting(self):
        field = self.given()
        give = (0, 0, 4)
        self.assertEqual(field.run()[7][0][2][0], "give")
        self.bad(field, ("forget", 2, give), ("forget", 1, (0, 0, 3)), ("forget", 1, (9, 9, 9)), ("forget", 1, ()), ("forget", 1))
        many = len(field.run())
        field.do(("forget", 1, give))
        self.assertEqual([event[2] for event, _ in field.run()[many:]], [("swear", give), ("send", 0)])
        self.bad(field, ("forget", 1, give))
        field.do(("forget", 0, give))
        self.assertEqual(field.run()[-1][0][2], ("swear", give))
        self.bad(field, ("forget", 0, give))
        field = self.given()
        field.do(("hand", 0, (), 2))
        self.bad(field, ("forget", 0, give))
        field.do(("forget", 1, give))

    def test_letters(self):
        field = led([("ask", 1, ("a",), 0), ("ask", 2, ("a",), 0)])
        self.assertEqual(field.under_way(), (((1, 0, 2), 0), ((2, 0, 2), 0)))
        for kind in ("bring", "lose", "double"):
            self.bad(field, (kind, 2), (kind, -1), (kind, True), (kind, None), (kind,), (kind, 0, 0), (kind, "0"), (kind, (0, 1)))
        before = field.run()
        field.do(("lose", 0))
        self.assertEqual((field.run(), field.under_way()), (before, (((2, 0, 2), 0),)))
        field.do(("double", 0))
        self.assertEqual(field.under_way(), (((2, 0, 2), 0), ((0, 0, 3), 2)))
        self.assertEqual(kinds(field, 6), ["start", "hear", "give", "send"])
        field.do(("bring", 0))
        self.assertEqual((kinds(field, 10), field.under_way()), (["hear"], (((0, 0, 3), 2),)))
        field.do(("time", (50, 1)))
        field.do(("bring", 0))
        self.assertEqual(kinds(field, 11), ["hear"])
        self.bad(field, ("bring", 1))

    def test_two_fields_side_by_side(self):
        one, two = Field(ROSTER, LENGTH), Field(ROSTER, LENGTH)
        one.do(("wish", 0, (), "a", FIVE))
        one.do(("time", (3, 1)))
        self.assertEqual(shown(two), ((), (), ()))
        two.do(("ask", 1, ("a",), 0))
        self.assertEqual(two.run()[0][1], (0, 1))
        self.assertEqual(one.under_way(), ())


class Rule(unittest.TestCase):
    def test_wishes_that_wait_and_the_eldest_goes(self):
        field = led([("wish", 0, (), "a", FIVE), ("ask", 1, ("a",), 0), ("bring", 0)])
        field.do(("wish", 0, (), "a", ("value", 6)))
        field.do(("wish", 0, (), "a", None))
        field.do(("wish", 0, (), "a", ("value", 6)))
        self.assertEqual([row[1:] for row in field.done()[1:]], [((0, 1), None)] * 3)
        field.do(("time", (9, 1)))
        field.do(("ask", 0, ("q",), 0))
        self.assertEqual([row[2] for row in field.done()[1:]], [None] * 3)
        field.do(("time", (1, 1)))
        many = len(field.run())
        field.do(("ask", 0, ("r",), 0))
        self.assertEqual([event[2] for event, _ in field.run()[many:]], [
            ("ask", ("r",), 0), ("put", (), "a", ("value", 6)), ("put", (), "a", None), ("put", (), "a", ("value", 6)),
            ("tell", ("r",), 0, (("nothing",), ()))])
        self.assertEqual([row[2] for row in field.done()[1:]], [(10, 1)] * 3)

    def test_wishes_that_are_given_up(self):
        field = led([("wish", 0, (), "a", FIVE), ("ask", 1, ("a",), 0), ("bring", 0)])
        field.do(("wish", 0, (), "a", None))
        field.do(("hand", 0, (), 1))
        field.do(("bring", 1))
        field.do(("hand", 1, (), 0))
        field.do(("bring", 1))
        field.do(("time", (30, 1)))
        field.do(("ask", 0, ("a",), 0))
        self.assertEqual(field.done()[1], (("wish", 0, (), "a", None), (0, 1), None))
        self.assertEqual(field.run()[-1][0][2], ("tell", ("a",), 0, (FIVE, ())))

    def test_a_wish_for_what_stands_already_by_then(self):
        field = led([("wish", 0, (), "a", FIVE), ("ask", 1, ("a",), 0), ("bring", 0)])
        for entry in (None, None, FIVE):
            told(field.do, ("wish", 0, (), "a", entry))
        field.do(("time", (10, 1)))
        field.do(("ask", 0, ("q",), 0))
        self.assertEqual([row[2] for row in field.done()], [(0, 1), (10, 1), None])
        self.assertEqual(kinds(field).count("put"), 2)

    def test_pages_are_put_again(self):
        field = led([("wish", 0, (), "a", FIVE), ("ask", 1, ("a",), 0), ("bring", 0)])
        for _ in range(2):
            field.do(("wish", 0, (), "a", ("page", 1, ())))
        field.do(("time", (10, 1)))
        field.do(("ask", 0, ("q",), 0))
        self.assertEqual([row[2] for row in field.done()], [(0, 1), (10, 1), (10, 1)])

    def test_promises_until_the_length_or_what_is_promised_already(self):
        field = led([("wish", 0, (), "b", FIVE), ("time", (1, 1)), ("ask", 1, ("a",), 0), ("ask", 2, ("a",), 0), ("bring", 0)])
        self.assertEqual(field.run()[-2][0][2], ("give", (), "a", (11, 1), 1))
        field.do(("wish", 0, (), "aa", FIVE))
        field.do(("time", (3, 1)))
        field.do(("bring", 0))
        self.assertEqual(field.run()[-2][0][2], ("give", (), "a", (11, 1), 2))
        field.do(("ask", 1, ("az",), 0))
        field.do(("ask", 1, ("c",), 0))
        field.do(("bring", 2))
        field.do(("bring", 2))
        gives = [event[2] for event, _ in field.run() if event[2][0] == "give"]
        self.assertEqual(gives[2:], [("give", (), "az", (11, 1), 1), ("give", (), "c", (14, 1), 1)])

    def waiting(self):
        """House 0 has promised a until 10 and c until 14; b is free; it wishes to change a and c; the true time is 4."""
        field = led([("wish", 0, (), label, FIVE) for label in "abc"])
        field.do(("ask", 1, ("a",), 0))
        field.do(("bring", 0))
        field.do(("time", (4, 1)))
        field.do(("ask", 1, ("c",), 0))
        field.do(("bring", 1))
        return field

    def test_promises_that_cover_what_is_wished(self):
        field = self.waiting()
        field.do(("wish", 0, (), "a", None))
        field.do(("wish", 0, (), "c", None))
        for label, end in (("a", (10, 1)), ("c", (14, 1)), ("b", (14, 1))):
            field.do(("ask", 2, (label,), 0))
            field.do(("bring", len(field.under_way()) - 1))
            self.assertEqual(field.run()[-2][0][2], ("give", (), label, end, 2))

    def test_a_gap_over_two_wishes(self):
        field = led([("ask", 1, ("a",), 0), ("bring", 0), ("time", (2, 1)), ("ask", 1, ("q",), 0), ("bring", 1), ("wish", 0, (), "m", FIVE)])
        self.assertEqual([event[2] for event, _ in field.run() if event[2][0] == "give"], [("give", (), "a", (10, 1), 1), ("give", (), "q", (12, 1), 1)])
        field.do(("wish", 0, (), "n", FIVE))
        field.do(("ask", 2, ("z",), 0))
        field.do(("bring", len(field.under_way()) - 1))
        self.assertEqual(field.run()[-2][0][2], ("give", (), "z", (12, 1), 2))

    def test_no_promise_where_a_wish_has_none_of_ones_own(self):
        """The promise that bars the wish is another house's: this one gives none that covers it."""
        field = led([("wish", 0, (), "a", FIVE), ("ask", 2, ("a",), 0), ("bring", 0), ("bring", 0), ("ask", 2, ("q",), 0), ("bring", 0)])
        field.do(("hand", 0, (), 1))
        field.do(("bring", 1))
        self.assertEqual([event[2][2] for event, _ in field.run() if event[2][0] == "give" and event[0][0] == 1], ["q"])
        field.do(("wish", 1, (), "a", None))
        self.assertIsNone(field.done()[1][2])
        many = len(field.run())
        field.do(("ask", 3, ("a",), 0))
        field.do(("bring", len(field.under_way()) - 1))
        field.do(("bring", len(field.under_way()) - 1))
        self.assertEqual([(event[0][0], event[2][0]) for event, _ in field.run()[many:]], [
            (3, "start"), (3, "ask"), (3, "send"), (0, "hear"), (0, "send"), (1, "hear")])

    def test_an_end_that_is_not_above_the_clock(self):
        """House 1's own promise is over by its clock; the wish is barred by that of house 0, which kept the page first."""
        field = led([("clock", 0, (100, 1)), ("wish", 0, (), "a", FIVE)], ((1, 100),))
        for deed in (("ask", 2, ("a",), 0), ("bring", 0), ("hand", 0, (), 1), ("time", (4, 1)), ("bring", 1)):
            field.do(deed)
        self.assertEqual([event[2] for event, _ in field.run() if event[2][0] == "give"][1:], [("give", (), "a", (14, 1), 2)])
        field.do(("wish", 1, (), "a", None))
        for time, ends in (((19, 2), [(14, 1)]), ((1, 2), [])):
            field.do(("time", time))
            many = len(field.run())
            field.do(("ask", 3, ("a",), 0))
            field.do(("bring", len(field.under_way()) - 1))
            field.do(("bring", len(field.under_way()) - 1))
            self.assertEqual([event[2][3] for event, _ in field.run()[many:] if event[2][0] == "give"], ends)
            self.assertIsNone(field.done()[1][2])

    def test_an_ask_goes_from_house_to_house(self):
        field = led([("wish", 0, (), "a", ("page", 1, (("b", FIVE),))), ("ask", 2, ("a", "b"), 0), ("bring", 0), ("bring", 0), ("bring", 0)])
        self.assertEqual([(event[0][0], event[2][0]) for event, _ in field.run()[3:]], [
            (2, "start"), (2, "ask"), (2, "send"), (0, "hear"), (0, "give"), (0, "send"), (1, "start"), (1, "hear"), (1, "give"), (1, "send"),
            (2, "hear"), (2, "tell")])
        sends = [event[2][1] for event, _ in field.run() if event[2][0] == "send"]
        self.assertEqual(sends, [0, 1, 2])

    def test_an_asker_that_keeps_a_page_itself(self):
        field = led([("wish", 0, (), "a", ("page", 1, ())), ("ask", 1, ("a", "b"), 0), ("bring", 0), ("bring", 0)])
        self.assertEqual(field.run()[-1][0][2], ("tell", ("a", "b"), 0, (("nothing",), ())))
        self.assertEqual([event[2][1] for event, _ in field.run() if event[2][0] == "give"], [()])

    def test_an_ask_sent_to_a_house_that_has_handed_its_page_over(self):
        field = led([("hand", 0, (), 1), ("bring", 0), ("ask", 2, ("a",), 0)])
        self.assertEqual(field.under_way(), (((2, 0, 2), 0),))
        field.do(("bring", 0))
        self.assertEqual(field.run()[-1][0][2], ("send", 1))
        field.do(("bring", 0))
        field.do(("bring", 0))
        self.assertEqual(field.run()[-1][0][2], ("tell", ("a",), 0, (("nothing",), ())))

    def test_one_telling_answers_all_asks_ahead_of_it(self):
        field = led([("ask", 2, ("a",), 0), ("ask", 2, ("a",), 0), ("ask", 2, ("a",), 1), ("bring", 0), ("bring", 2)])
        answer = (("nothing",), ())
        self.assertEqual([event[2] for event, _ in field.run()[-2:]], [("tell", ("a",), 0, answer), ("tell", ("a",), 1, answer)])
        self.assertEqual(kinds(field).count("tell"), 2)
        field = led([("ask", 0, ("a",), 0), ("ask", 0, ("a",), 0)])
        self.assertEqual(kinds(field), ["start", "ask", "tell", "ask", "tell"])

    def test_an_ask_of_ones_own_waits_for_another(self):
        field = led([("ask", 2, ("a",), 0), ("lose", 0), ("ask", 2, ("b",), 0)])
        self.assertEqual(field.under_way(), (((2, 0, 4), 0),))
        field.do(("bring", 0))
        self.assertEqual([event[2][2] for event, _ in field.run() if event[2][0] == "give"], ["a", "b"])
        field.do(("bring", 0))
        self.assertEqual([event[2][1] for event, _ in field.run() if event[2][0] == "tell"], [("a",), ("b",)])

    def test_own_asks_are_sent_again_by_letters_and_asks_alone(self):
        """Node 1 has an open ask of its own; wishing, handing over and forgetting it writes no letter for that."""
        field = led([("wish", 0, (), "x", ("page", 1, ())), ("wish", 0, (), "y", ("page", 1, ())), ("ask", 1, ("x", "a"), 0), ("bring", 0), ("bring", 0)])
        field.do(("ask", 1, ("q",), 0))
        field.do(("lose", 0))
        x, y = [event[0] for event, _ in field.run() if event[2][0] == "put"]
        give = [event[0] for event, _ in field.run() if event[2][0] == "give"][0]
        field.do(("wish", 1, x, "a", FIVE))
        self.assertEqual(field.under_way(), ())
        field.do(("hand", 1, x, 2))
        self.assertEqual([to for _, to in field.under_way()], [2])
        field.do(("forget", 1, give))
        self.assertEqual([to for _, to in field.under_way()], [2, 0])
        field.do(("ask", 1, ("r",), 0))
        self.assertEqual([to for _, to in field.under_way()], [2, 0, 0])
        self.assertNotEqual(x, y)

    def test_another_telling_does_not_answer_an_ask(self):
        """House 0 tells a itself, with 2's ask in its past; when a has come to be another name, it still serves 2."""
        field = led([("wish", 0, (), "a", FIVE), ("ask", 2, ("a",), 1), ("bring", 0), ("lose", 0), ("ask", 0, ("a",), 1), ("time", LENGTH)])
        for deed in (("wish", 0, (), "a", ("name", ("c",))), ("ask", 2, ("q",), 0), ("bring", 0)):
            field.do(deed)
        self.assertEqual([event[2][2] for event, _ in field.run() if event[2][0] == "give"], ["a", "c", "q"])

    def test_any_house_that_has_handed_its_page_over(self):
        field = led([("wish", 0, (), "x", ("page", 1, ())), ("ask", 3, ("x", "a"), 0), ("bring", 0), ("double", 0), ("hand", 1, (0, 0, 2), 2)])
        self.assertEqual([to for _, to in field.under_way()], [1, 3, 2])
        field.do(("ask", 4, ("x", "b"), 0))
        field.do(("bring", 3))
        many = len(field.run())
        field.do(("bring", 3))
        self.assertEqual([(event[0][0], event[2][:2]) for event, _ in field.run()[many:]], [(1, ("hear", (0, 0, 8))), (1, ("send", 2))])

    def test_the_last_node(self):
        field = led([("clock", 31, (1, 1)), ("time", (3, 1)), ("wish", 0, (), "x", ("page", 31, ())), ("ask", 31, ("x",), 0), ("bring", 0), ("bring", 0)])
        self.assertEqual(field.run()[-1][0][:2], ((31, 0, 4), (3, 1)))
        field.do(("wish", 31, (0, 0, 2), "a", FIVE))
        self.assertEqual(field.done()[1][2], (3, 1))

    def test_to_none_twice_and_in_order(self):
        field = led([("ask", 3, ("a",), 0), ("lose", 0), ("ask", 1, ("a",), 0), ("lose", 0), ("ask", 3, ("b",), 0), ("bring", 0)])
        self.assertEqual([to for _, to in field.under_way()], [3])
        field = led([("ask", 3, ("a",), 0), ("double", 0), ("hand", 0, (), 2)])
        self.assertEqual([to for _, to in field.under_way()], [0, 3, 2])
        many = len(field.run())
        field.do(("bring", 0))
        self.assertEqual([event[2] for event, _ in field.run()[many:]], [("hear", (3, 0, 2)), ("send", 2)])


class Drawn(unittest.TestCase):
    def fields(self, many, seed, deeds):
        for index in range(many):
            dice = random.Random(seed + index)
            nodes = dice.randint(2, 4)
            roster = some_clocks(dice, nodes)
            length = dice.choice(((1, 1), (5, 2), (6, 1)))
            yield dice, nodes, roster, length, dice.randint(5, deeds)

    def test_like_the_slow_reading(self):
        counts = {}
        for dice, nodes, roster, length, deeds in self.fields(110, 9000, 40):
            fast, slow = Field(roster, length), SlowField(roster, length)
            for _ in range(deeds):
                if len(slow.entries) > 60:
                    break
                deed = some_deed(dice, fast, nodes, roster)
                before = shown(fast)
                done = slow.do(deed)
                self.assertEqual(told(fast.do, deed), ("gives", None) if done else ("BadDeed", 0), deed)
                self.assertEqual(shown(fast), (slow.run(), tuple(slow.letters), slow.done()), deed)
                if not done:
                    self.assertEqual(shown(fast), before)
                counts[deed[0], done] = counts.get((deed[0], done), 0) + 1
        done = [counts.get((kind, True), 0) for kind in ("wish", "ask", "hand", "forget", "bring", "double", "lose", "clock")]
        self.assertGreater(min(done), 10, done)

    def test_what_holds_of_fields(self):
        """Points 88 and 90."""
        counts = {}
        for dice, nodes, roster, length, deeds in self.fields(100, 9500, 60):
            field = Field(roster, length)
            for _ in range(deeds):
                if len(field.run()) > 70:
                    break
                deed = some_deed(dice, field, nodes, roster)
                many = len(field.run())
                if told(field.do, deed)[0] == "gives" and len(field.run()) > many:
                    node = field.run()[-1][0][0][0]
                    self.no_wish_waits_in_vain(roster, field, node, counts)
            run = field.run()
            self.assertEqual(check_run(roster, run), run)
            self.assertEqual(lost_puts(run), ())
            record = record_of_run(run)
            for place, (event, _) in enumerate(run):
                if event[2][0] in ("put", "tell"):
                    counts[event[2][0]] = counts.get(event[2][0], 0) + 1
                    self.assertTrue(has_right(roster, record, event))
                if event[2][0] == "tell":
                    self.assertIs(is_stale(run, place), False)
        self.assertGreater(min(counts.get(kind, 0) for kind in ("put", "tell", "waits")), 40, counts)

    def no_wish_waits_in_vain(self, roster, field, node, counts):
        seen = seen_by(field.run(), len(field.run()), node)
        for wish in field._waiting(node):
            counts["waits"] = counts.get("waits", 0) + 1
            self.assertEqual(may_put(roster, seen, node, wish.deed[2], wish.deed[3])[0], "not")

    def test_no_asking_puts_a_wish_off(self):
        """Point 89: a house that alone has promised puts by its clock's reading of the greatest end, whoever asks on."""
        for seed in range(30):
            dice = random.Random(9800 + seed)
            roster = ((1, 2), (1, 3), (1, 3), (1, 2))
            field = Field(roster, (6, 1))
            field.do(("wish", 0, (), "a", FIVE))
            for _ in range(dice.randint(1, 8)):
                self.ask_on(dice, field)
            ends = [event[2][3] for event, _ in field.run() if event[2][:3] == ("give", (), "a")]
            field.do(("wish", 0, (), "a", None))
            reading = field.done()[1][1]
            last = max([number(reading)] + [number(end) for end in ends])
            for _ in range(60):
                if field.done()[1][2] is not None:
                    break
                self.ask_on(dice, field)
            field.do(("clock", 0, (2, 1)))
            if field.done()[1][2] is None:
                field.do(("time", (14, 1)))
                field.do(("ask", 0, ("q",), 0))
            put = field.done()[1][2]
            self.assertIsNotNone(put)
            at = [at for at, (event, _) in enumerate(field.run()) if event[2] == ("put", (), "a", None)][0]
            for event, _ in field.run()[:at]:
                if event[0][0] == 0 and event[1] != put:
                    self.assertLess(number(event[1]), last)
                if event[2][:3] == ("give", (), "a"):
                    self.assertLessEqual(number(event[2][3]), last)

    def ask_on(self, dice, field):
        letters = field.under_way()
        if letters and dice.random() < 0.6:
            field.do(("bring", dice.randrange(len(letters))))
        elif dice.random() < 0.4:
            field.do(("time", (1, dice.choice((1, 2)))))
        else:
            field.do(("ask", dice.randint(1, 3), ("a",), 0))

    def test_the_error(self):
        self.assertRaises(BadDeed, Field((), (1, 1)).do, None)


if __name__ == "__main__":
    unittest.main()
