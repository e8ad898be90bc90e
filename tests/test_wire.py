"""Points 15 to 18: events as octets, one by one, in packed rows, in streams."""

import random
import unittest
from math import gcd

from goodtill.wire import decode_event, decode_stream, encode_event, encode_stream, pack_events, unpack_events
from tests import some_events
from tests.told import ANYTHING, nested, told

NO_OCTETS = (-1, 256, 10 ** 30, True, False, None, "", "a", "1", (), (1,), [1], nested(12))

A, B = (0, 0, 1, 0, 1), (31, 1, 2, 1, 3)


def forms_of_deeds():
    """Deeds of each form with the octets of each, written out by hand."""
    return (
        (("start", None), (0, 0)),
        (("start", (0, 0, 0)), (0, 1, 0, 0)),
        (("start", (31, 127, 128)), (0, 32, 127, 128, 1)),
        (("tick",), (1,)),
        (("send", 0), (2, 0)),
        (("send", 31), (2, 31)),
        (("hear", (4, 129, 16383)), (3, 4, 129, 1, 255, 127)),
        (("put", (), "a", None), (4, 0, 1, 0, 0)),
        (("put", (31, 0, 5), "zb", ("value", 0)), (4, 32, 0, 5, 2, 25, 1, 1, 0)),
        (("put", (), "a", ("value", 16384)), (4, 0, 1, 0, 1, 128, 128, 1)),
        (("put", (), "a", ("name", ("b", "cd"))), (4, 0, 1, 0, 2, 2, 1, 1, 2, 2, 3)),
        (("put", (), "a", ("page", 31, ())), (4, 0, 1, 0, 3, 31, 0)),
        (("put", (), "a", ("page", 0, (("a", ("value", 7)), ("aa", ("name", ("z",)))))),
         (4, 0, 1, 0, 3, 0, 1, 1, 0, 1, 7, 1, 2, 0, 0, 2, 1, 1, 25, 0)),
        (("give", (), "c", (-1, 2), 9), (5, 0, 1, 2, 1, 2, 9)),
        (("give", (0, 0, 1), "c", (64, 129), 9), (5, 1, 0, 1, 1, 2, 128, 1, 129, 1, 9)),
        (("pass", (1, 2, 3), 4), (6, 1, 2, 3, 4)),
        (("swear", (1, 2, 3)), (7, 1, 2, 3)),
        (("hand", (), 5), (8, 0, 5)),
        (("hand", (1, 2, 3), 5), (8, 2, 2, 3, 5)),
        (("tell", ("a",), 0, (("value", 128), ())), (9, 1, 1, 0, 0, 0, 128, 1, 0)),
        (("tell", ("a",), 8, (("page", 7, ()), (("b",),))), (9, 1, 1, 0, 8, 1, 7, 0, 1, 1, 1, 1)),
        (("tell", ("a",), 1, (("page", 7, (3, 1, 2)), ())), (9, 1, 1, 0, 1, 1, 7, 4, 1, 2, 0)),
        (("tell", ("a",), 2, (("nothing",), ())), (9, 1, 1, 0, 2, 2, 0)),
        (("tell", ("a",), 3, (("long",), (("b",), ("c", "d")))), (9, 1, 1, 0, 3, 3, 2, 1, 1, 1, 2, 1, 2, 1, 3)),
        (("tell", ("a",), 4, (("far",), (("b",),) * 9)), (9, 1, 1, 0, 4, 4, 9) + (1, 1, 1) * 9),
        (("ask", ("a", "b", "c", "d", "e", "abcdefgh"), 8),
         (10, 6, 1, 0, 1, 1, 1, 2, 1, 3, 1, 4, 8, 0, 1, 2, 3, 4, 5, 6, 7, 8)),
    )


def numbers_in_groups():
    """Numbers at which one more group begins, with their octets."""
    return ((0, (0,)), (1, (1,)), (127, (127,)), (128, (128, 1)), (129, (129, 1)), (255, (255, 1)), (256, (128, 2)),
            (16383, (255, 127)), (16384, (128, 128, 1)), (2097151, (255, 255, 127)), (2097152, (128, 128, 128, 1)))


def completed(octets):
    """Some form that begins so, found by trial; it is a form as writing what is read gives it again."""
    todo = [tuple(octets)]
    for _ in range(3000):
        here = todo.pop()
        kind, answer = told(decode_event, here)
        if kind == "gives":
            return here if encode_event(answer) == here else None
        if answer == len(here):
            todo += [here + (octet,) for octet in (range(255, -1, -1) if len(todo) < 2000 else (25, 2, 0, 1))]
    return None


class Forms(unittest.TestCase):
    def test_each_deed_by_hand(self):
        for deed, octets in forms_of_deeds():
            event, form = ((2, 3, 4), (5, 1), deed), (2, 3, 4, 10, 1) + octets
            self.assertEqual(encode_event(event), form)
            self.assertEqual(told(decode_event, form), ("gives", event))
            self.assertEqual(told(decode_event, list(form)), ("gives", event))

    def test_groups(self):
        for number, octets in numbers_in_groups():
            event = ((0, number, number), (number, 1), ("hear", (1, number, number)))
            twice = dict(numbers_in_groups()).get(2 * number)
            form = encode_event(event)
            self.assertEqual(form[1:1 + 2 * len(octets)], octets * 2)
            self.assertEqual(form[-2 * len(octets):], octets * 2)
            if twice:
                self.assertEqual(form[1 + 2 * len(octets):][:len(twice)], twice)
            self.assertEqual(decode_event(form), event)

    def test_readings(self):
        for reading, octets in (((0, 1), (0, 1)), ((-1, 1), (1, 1)), ((1, 1), (2, 1)), ((-64, 1), (127, 1)),
                                ((64, 1), (128, 1, 1)), ((-65, 128), (129, 1, 128, 1)), ((3, 4), (6, 4))):
            self.assertEqual(encode_event(((0, 0, 0), reading, ("tick",))), (0, 0, 0) + octets + (1,))

    def test_random_events_are_read_back(self):
        dice = random.Random(16)
        for kind in some_events.KINDS:
            for _ in range(60):
                event = some_events.event(dice, kind)
                form = encode_event(event)
                self.assertTrue(all(type(octet) is int and 0 <= octet <= 255 for octet in form))
                self.assertEqual(decode_event(form), event)
                self.assertEqual(decode_event(octets=list(form)), event)

    def test_no_form_begins_another(self):
        dice = random.Random(17)
        forms = sorted({encode_event(some_events.event(dice)) for _ in range(500)})
        for one, two in zip(forms, forms[1:]):
            self.assertNotEqual(two[:len(one)], one)

    def test_great_numbers(self):
        octets = (0, 0) + (255,) * 99 + (1, 2, 1, 1)
        number = decode_event(octets)[0][2]
        self.assertEqual(number, 128 ** 99 * 2 - 1)
        self.assertEqual(encode_event(decode_event(octets)), octets)
        reading = (10 ** 60 - 1, 10 ** 60)
        event = ((0, 10 ** 7, 10 ** 7), reading, ("give", (), "a", (-reading[0], reading[1]), 1))
        self.assertEqual(decode_event(encode_event(event)), event)


class Faults(unittest.TestCase):
    def allowed(self, ahead):
        """All octets that may stand behind these."""
        good = []
        for octet in range(256):
            kind, answer = told(decode_event, ahead + (octet,))
            if kind == "gives" or answer == len(ahead) + 1:
                good.append(octet)
            else:
                self.assertEqual((kind, answer), ("BadOctets", len(ahead)))
        return good

    def upto(self, ahead, low, high):
        self.assertEqual(self.allowed(ahead), list(range(low, high + 1)), ahead)

    def test_neither_list_nor_tuple(self):
        for value in ANYTHING:
            if not isinstance(value, (list, tuple)):
                for function in (decode_event, unpack_events, decode_stream):
                    self.assertEqual(told(function, value), ("BadOctets", -1))

    def test_limits_of_each_octet(self):
        self.upto((), 0, 31)
        self.upto((0,), 0, 255)
        self.upto((0, 0), 0, 255)
        self.upto((0, 128), 1, 255)
        self.upto((0, 255, 128), 1, 255)
        self.upto((0, 0, 1), 0, 255)
        self.upto((0, 0, 1, 2), 1, 255)
        self.upto(A, 0, 10)
        self.upto(A + (0,), 0, 32)
        self.upto(A + (2,), 0, 31)
        self.upto(A + (3,), 0, 31)
        self.upto(A + (6,), 0, 31)
        self.upto(A + (6, 0, 0, 0), 0, 31)
        self.upto(A + (7,), 0, 31)
        for kind in (4, 5, 8):
            self.upto(A + (kind,), 0, 32)
        self.upto(A + (8, 0), 0, 31)
        self.upto(A + (8, 5, 0, 0), 0, 31)
        self.upto(A + (5, 0, 1, 0, 2, 1), 0, 31)
        for ahead in ((4, 0), (5, 0)):
            self.upto(A + ahead, 1, 8)
            self.upto(A + ahead + (1,), 0, 25)
            self.upto(A + ahead + (8, 25, 25, 25, 25, 25, 25, 25), 0, 25)
        for kind in (9, 10):
            self.upto(A + (kind,), 1, 6)
            self.upto(A + (kind, 1), 1, 8)
            self.upto(A + (kind, 1, 1), 0, 25)
            self.upto(A + (kind, 1, 1, 0), 0, 8)

    def test_limits_in_entries(self):
        head = A + (4, 0, 1, 0)
        self.upto(head, 0, 3)
        self.upto(head + (1,), 0, 255)
        self.upto(head + (2,), 1, 6)
        self.upto(head + (2, 2, 1, 0), 1, 8)
        self.upto(head + (3,), 0, 31)
        self.upto(head + (3, 0), 0, 1)
        self.upto(head + (3, 0, 1), 1, 8)
        self.upto(head + (3, 0, 1, 1), 0, 25)
        self.upto(head + (3, 0, 1, 1, 0), 1, 2)
        self.upto(head + (3, 0, 1, 1, 0, 2), 1, 6)
        self.upto(head + (3, 0, 1, 1, 0, 1, 5), 0, 1)

    def test_limits_in_answers(self):
        head = A + (9, 1, 1, 0, 8)
        self.upto(head, 0, 4)
        self.upto(head + (0,), 0, 255)
        self.upto(head + (0, 128), 1, 255)
        self.upto(head + (1,), 0, 31)
        self.upto(head + (1, 0), 0, 32)
        for found in ((0, 5), (1, 0, 0), (1, 0, 1, 0, 0), (2,), (3,), (4,)):
            self.upto(head + found, 0, 9)
            self.upto(head + found + (1,), 1, 6)
        self.upto(head + (2, 9), 1, 6)

    def test_lowest_terms(self):
        for n in (0, 1, -1, 2, -2, 3, 6, 30, 64, 127, 128, 254, 30030):
            sign = 2 * n if n >= 0 else -2 * n - 1
            head = (0, 0, 1) + ((sign,) if sign < 128 else encode_event(((0, 0, 1), (n, 1), ("tick",)))[3:-2])
            good = []
            for d in range(256):
                low = d % 128
                more = [low + 128 * high for high in range(1, 400)]
                if d < 128 and d > 0 and gcd(n, d) == 1 or d > 127 and any(gcd(n, one) == 1 for one in more):
                    good.append(d)
            self.assertEqual(self.allowed(head), good, n)
        self.assertEqual(self.allowed((0, 0, 1, 0)), [1])
        # 3 goes with 128 + 1 = 129 no, with 128 + 2 = 130 well
        self.assertEqual(told(decode_event, (0, 0, 1, 6, 129, 1, 1)), ("BadOctets", 5))
        self.assertEqual(told(decode_event, (0, 0, 1, 6, 130, 1, 1))[0], "gives")

    def test_labels_of_first_entries_ascend(self):
        def ahead(label):
            return A + (4, 0, 1, 0, 3, 0, 1, len(label)) + tuple(ord(sign) - 97 for sign in label) + (1, 0)

        for label in ("a", "b", "z", "zz", "az", "ba", "zzzzzzz", "zzzzzzzy", "yzzzzzzz", "abcdefgh"):
            head = ahead(label) + (1,)
            self.assertEqual(self.allowed(head), [many for many in range(1, 9) if "z" * many > label])
            for many in self.allowed(head):
                good = [k for k in range(26) if chr(97 + k) + "z" * (many - 1) > label]
                self.assertEqual(self.allowed(head + (many,)), good)
        self.assertEqual(self.allowed(ahead("zzzzzzzz")), [0])
        self.assertEqual(self.allowed(ahead("ba") + (1, 2, 1)), list(range(1, 26)))
        self.assertEqual(self.allowed(ahead("ba") + (1, 3, 1)), list(range(0, 26)))
        self.assertEqual(self.allowed(ahead("ba") + (1, 3, 1, 0)), list(range(0, 26)))
        self.assertEqual(self.allowed(ahead("bab") + (1, 3, 1, 0)), list(range(2, 26)))

    def test_six_first_entries(self):
        rows = ()
        for k in range(6):
            self.assertEqual(self.allowed(A + (4, 0, 1, 0, 3, 0) + rows), [0, 1])
            rows += (1, 1, k, 1, 0)
        self.assertEqual(self.allowed(A + (4, 0, 1, 0, 3, 0) + rows), [0])

    def test_forms_cut_and_gone_on_with(self):
        for deed, octets in forms_of_deeds():
            form = (2, 3, 4, 10, 1) + octets
            for at in range(len(form)):
                self.assertEqual(told(decode_event, form[:at]), ("BadOctets", at))
                self.assertEqual(told(decode_event, list(form[:at])), ("BadOctets", at))
                for item in NO_OCTETS:
                    self.assertEqual(told(decode_event, form[:at] + (item,) + form[at + 1:]), ("BadOctets", at))
                    self.assertEqual(told(decode_event, form[:at] + (item,)), ("BadOctets", at))
            for item in NO_OCTETS + (0, 1, 255):
                self.assertEqual(told(decode_event, form + (item, 0)), ("BadOctets", len(form)))

    def test_each_item_changed(self):
        for deed, octets in forms_of_deeds():
            form = (2, 3, 4, 10, 1) + octets
            for at in range(len(form)):
                good = self.allowed(form[:at])
                self.assertIn(form[at], good)
                for octet in range(0, 256, 7):
                    changed = form[:at] + (octet,) + form[at + 1:]
                    kind, answer = told(decode_event, changed)
                    if octet not in good:
                        self.assertEqual((kind, answer), ("BadOctets", at))
                    elif kind == "gives":
                        self.assertEqual(encode_event(answer), changed)
                    else:
                        self.assertGreater(answer, at)
                        ahead = told(decode_event, changed[:answer])
                        self.assertTrue(ahead[0] == "gives" or ahead == ("BadOctets", answer))

    def test_what_is_begun_can_be_ended(self):
        dice = random.Random(18)
        for _ in range(150):
            form = encode_event(some_events.event(dice))
            at = dice.randrange(min(len(form), 60))
            begun = form[:at] + (dice.choice((0, 1, 2, 8, 25, 31, 127, 128, 129, 130, 255)),)
            kind, answer = told(decode_event, begun)
            if kind == "gives" or answer == len(begun):
                self.assertIsNotNone(completed(begun), begun)


class Rows(unittest.TestCase):
    def setUp(self):
        dice = random.Random(19)
        self.rows = [tuple(some_events.event(dice) for _ in range(many)) for many in (0, 1, 2, 3, 7, 130)]

    def test_packed_rows(self):
        for row in self.rows:
            octets = pack_events(row)
            many = (len(row),) if len(row) < 128 else (len(row) - 128 + 128, 1)
            self.assertEqual(octets, many + encode_stream(row))
            self.assertEqual(unpack_events(octets), row)
            self.assertEqual(unpack_events(list(octets)), row)

    def test_packed_rows_cut_and_gone_on_with(self):
        for row in self.rows[:4]:
            octets = pack_events(row)
            for at in range(len(octets)):
                self.assertEqual(told(unpack_events, octets[:at]), ("BadOctets", at))
                for item in NO_OCTETS:
                    self.assertEqual(told(unpack_events, octets[:at] + (item,)), ("BadOctets", at))
            self.assertEqual(told(unpack_events, octets + (0,)), ("BadOctets", len(octets)))
            self.assertEqual(told(unpack_events, octets + (True,)), ("BadOctets", len(octets)))

    def test_the_count(self):
        tick = (0, 0, 0, 0, 1, 1)
        self.assertEqual(told(unpack_events, ()), ("BadOctets", 0))
        self.assertEqual(told(unpack_events, (0, 0)), ("BadOctets", 1))
        self.assertEqual(told(unpack_events, (128, 0)), ("BadOctets", 1))
        self.assertEqual(told(unpack_events, (128,)), ("BadOctets", 1))
        self.assertEqual(told(unpack_events, (1,) + tick + tick), ("BadOctets", 7))
        self.assertEqual(told(unpack_events, (3,) + tick + tick), ("BadOctets", 13))
        self.assertEqual(told(unpack_events, (255,) * 99 + (1,) + tick), ("BadOctets", 106))
        self.assertEqual(told(unpack_events, (2,) + tick + (0, 0, 0, 0, 2)), ("BadOctets", 11))
        self.assertEqual(told(unpack_events, (256,)), ("BadOctets", 0))
        self.assertEqual(told(unpack_events, (128, 1) + tick * 128)[0], "gives")
        self.assertEqual(told(unpack_events, (128, 1) + tick * 129), ("BadOctets", 2 + 6 * 128))

    def test_streams(self):
        for row in self.rows:
            octets = encode_stream(row)
            self.assertEqual(octets, tuple(octet for event in row for octet in encode_event(event)))
            self.assertEqual(decode_stream(octets), (row, ()))
            self.assertEqual(decode_stream(list(octets)), (row, ()))

    def test_streams_cut_at_each_octet(self):
        for row in self.rows[:5]:
            octets = encode_stream(row)
            for at in range(len(octets) + 1):
                first, rest = decode_stream(octets[:at])
                self.assertEqual(first, row[:len(first)])
                self.assertEqual(encode_stream(first) + rest, octets[:at])
                second, last = decode_stream(rest + octets[at:])
                self.assertEqual((first + second, last), (row, ()))

    def test_streams_read_piece_by_piece(self):
        dice = random.Random(20)
        for row in self.rows:
            octets, rest, events = encode_stream(row), (), ()
            while octets:
                many = dice.randint(0, 9)
                told_now, rest = decode_stream(list(rest + octets[:many]))
                events += told_now
                octets = octets[many:]
            self.assertEqual((events, rest), (row, ()))

    def test_faults_in_streams(self):
        tick = (0, 0, 0, 0, 1, 1)
        self.assertEqual(told(decode_stream, ()), ("gives", ((), ())))
        self.assertEqual(told(decode_stream, []), ("gives", ((), ())))
        for item in NO_OCTETS + (32, 255):
            self.assertEqual(told(decode_stream, (item,)), ("BadOctets", 0))
            self.assertEqual(told(decode_stream, tick + (item,)), ("BadOctets", 6))
            self.assertEqual(told(decode_stream, tick + (item,) + tick), ("BadOctets", 6))
        self.assertEqual(told(decode_stream, tick + (0, 0, 0, 0, 2)), ("BadOctets", 10))
        self.assertEqual(told(decode_stream, tick + (0, 128, 0)), ("BadOctets", 8))
        self.assertEqual(told(decode_stream, tick + (0, 128)), ("gives", ((((0, 0, 0), (0, 1), ("tick",)),), (0, 128))))

    def test_long_rows_of_octets(self):
        self.assertEqual(told(decode_event, [0] * 1700), ("BadOctets", 4))
        self.assertEqual(told(decode_event, B + (1,) + (None,) * 1700), ("BadOctets", 6))
        self.assertEqual(len(decode_stream((0, 0, 0, 0, 1, 1) * 283)[0]), 283)


if __name__ == "__main__":
    unittest.main()
