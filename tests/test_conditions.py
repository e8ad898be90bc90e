"""Point 22: each of the eleven conditions of a view, broken alone."""

import unittest

from goodtill.views import check_view
from tests.build import Rows
from tests.slow_views import broken
from tests.told import ANYTHING, nested, told

TAIL = (((7, 0, 0), (9, 1), ("start", None)), ((7, 0, 1), (9, 1), ("send", 0)))


class Alone(unittest.TestCase):
    """Each case: what stands ahead, entries that break one condition alone, entries that are well there."""

    def case(self, condition, ahead, bad, good):
        ahead = tuple(ahead)
        many = len(ahead)
        self.assertIs(check_view(ahead), ahead)
        for event in bad:
            self.assertEqual(broken(ahead, event), {condition}, event)
            self.assertEqual(told(check_view, ahead + (event,)), ("BadView", many), event)
            self.assertEqual(told(check_view, ahead + (event,) + TAIL), ("BadView", many))
            self.assertEqual(told(check_view, ahead + (event, None)), ("BadView", many))
            self.assertEqual(told(check_view, TAIL + ahead + (event,)), ("BadView", many + 2))
            self.assertEqual(told(check_view, ahead + TAIL + (event,) + (event,)), ("BadView", many + 2))
        for event in good:
            self.assertEqual(broken(ahead, event), set(), event)
            for row in (ahead + (event,), TAIL + ahead + (event,), ahead + TAIL + (event,), ahead + (event,) + TAIL):
                self.assertEqual(told(check_view, row), ("gives", row), event)

    def test_1_an_event_with_a_new_id(self):
        rows = Rows()
        rows.start(0)
        rows.do(0, "tick", at=2)
        same = ((0, 0, 1), (2, 1), ("send", 1))
        self.case(1, rows.row, [same, rows.row[1], rows.row[0], None, ((0, 0, 2), (4, 2), ("tick",))], [((0, 0, 2), (2, 1), ("tick",))])
        for value in ANYTHING + (nested(100), nested(100, 1, list), [rows.row[0]]):
            self.case(1, (), [value], [rows.row[0]])
            self.case(1, rows.row, [value], [])

    def test_1_a_start_told_twice(self):
        first, tick = ((0, 1, 0), (0, 1), ("start", None)), ((0, 1, 1), (0, 1), ("tick",))
        self.case(1, (first, tick), [first, tick], [((0, 1, 2), (0, 1), ("tick",))])

    def test_2_steps_back(self):
        first = ((0, 0, 0), (3, 1), ("start", None))
        self.case(2, (), [((0, 0, 1), (3, 1), ("tick",)), ((0, 0, 0), (3, 1), ("tick",)), ((0, 0, 0), (3, 1), ("send", 1)),
                          ((0, 0, 1), (3, 1), ("start", None)), ((0, 1, 0), (3, 1), ("start", (0, 0, 0)))],
                  [first, ((0, 4, 0), (3, 1), ("start", None))])
        self.case(2, (first,), [((0, 0, 2), (3, 1), ("tick",)), ((0, 0, 1), (3, 1), ("hear", (1, 0, 1))),
                                ((0, 1, 1), (3, 1), ("start", None)), ((0, 1, 0), (3, 1), ("start", (0, 0, 1))),
                                ((1, 0, 1), (3, 1), ("tick",)), ((0, 1, 1), (3, 1), ("tick",))],
                  [((0, 0, 1), (3, 1), ("tick",)), ((0, 1, 0), (3, 1), ("start", (0, 0, 0)))])

    def test_2_what_a_start_names(self):
        rows = Rows()
        rows.start(0)
        rows.start(1)
        rows.start(1, (1, 0, 0))
        self.case(2, rows.row, [((0, 1, 0), (0, 1), ("start", (1, 0, 0))), ((0, 1, 0), (0, 1), ("start", (1, 1, 0)))],
                  [((0, 1, 0), (0, 1), ("start", None)), ((0, 9, 0), (0, 1), ("start", (0, 0, 0)))])
        self.assertIn(2, broken(rows.row, ((1, 0, 0), (0, 1), ("start", (1, 1, 0)))))
        self.assertEqual(told(check_view, tuple(rows.row[2:])), ("BadView", 0))

    def test_3_what_was_read_back_once(self):
        rows = Rows()
        rows.start(0)
        rows.do(0, "tick")
        rows.start(0, (0, 0, 1))
        rows.do(0, "tick")
        self.case(3, rows.row, [((0, 2, 0), (0, 1), ("start", (0, 0, 0))), ((0, 2, 0), (0, 1), ("start", None))],
                  [((0, 2, 0), (0, 1), ("start", kept)) for kept in ((0, 0, 1), (0, 1, 0), (0, 1, 1))])

    def test_3_an_elder_life_told_later(self):
        rows = Rows()
        rows.start(0)
        rows.do(0, "tick")
        rows.start(0, (0, 0, 1), life=5)
        self.case(3, rows.row, [((0, 2, 0), (0, 1), ("start", (0, 0, 0))), ((0, 2, 0), (0, 1), ("start", None))],
                  [((0, 2, 0), (0, 1), ("start", (0, 0, 1)))])
        rows = Rows()
        rows.start(0)
        rows.start(0, None, life=5)
        self.case(3, rows.row, [((0, 2, 0), (0, 1), ("start", (0, 0, 0))), ((0, 6, 0), (0, 1), ("start", (0, 0, 0)))],
                  [((0, 2, 0), (0, 1), ("start", None)), ((0, 6, 0), (0, 1), ("start", (0, 5, 0)))])

    def test_4_readings(self):
        rows = Rows()
        rows.start(0, at=5)
        rows.do(0, "tick", at=(16, 3))
        self.case(4, rows.row, [((0, 0, 2), (5, 1), ("tick",)), ((0, 0, 2), (-6, 1), ("tick",)), ((0, 3, 0), (5, 1), ("start", (0, 0, 0))),
                                ((0, 0, 2), (5333333, 1000000), ("tick",))],
                  [((0, 0, 2), (16, 3), ("tick",)), ((0, 3, 0), (16, 3), ("start", (0, 0, 0)))])

    def test_4_between_neighbours(self):
        rows = Rows()
        rows.start(0, at=5)
        rows.start(0, (0, 0, 0), at=7, life=3)
        rows.do(0, "tick", at=9)
        self.case(4, rows.row, [((0, 0, 1), (4, 1), ("tick",)), ((0, 0, 1), (8, 1), ("tick",)), ((0, 1, 0), (8, 1), ("start", (0, 0, 0))),
                                ((0, 3, 2), (8, 1), ("tick",))],
                  [((0, 0, 1), (5, 1), ("tick",)), ((0, 0, 1), (7, 1), ("tick",)), ((0, 1, 0), (6, 1), ("start", (0, 0, 0)))])

    def test_4_elder_lives_told_late(self):
        rows = Rows()
        rows.start(0, at=1)
        rows.start(0, (0, 0, 0), at=9, life=5)
        rows.do(0, "tick")
        rows.do(0, "tick")
        rows.do(0, "tick", life=0, at=3)
        rows.do(0, "tick", life=0, at=6)
        rows.start(0, (0, 0, 0), at=8, life=2)
        bad = [((0, 0, 3), (reading, 1), ("tick",)) for reading in (5, 9)] + [((0, 2, 1), (7, 1), ("tick",)), ((0, 3, 0), (7, 1), ("start", (0, 0, 0)))]
        self.case(4, rows.row, bad, [((0, 0, 3), (reading, 1), ("tick",)) for reading in (6, 7, 8)] + [((0, 2, 1), (8, 1), ("tick",))])

    def test_4_the_eldest_life_told_last(self):
        row = [((0, 2, 0), (5, 1), ("start", None)), ((0, 0, 0), (3, 1), ("start", None))]
        self.case(4, row, [((0, 2, 1), (4, 1), ("tick",)), ((0, 0, 1), (6, 1), ("tick",))],
                  [((0, 2, 1), (5, 1), ("tick",)), ((0, 0, 1), (5, 1), ("tick",))])

    def test_5_what_is_heard(self):
        rows = Rows()
        for node in (0, 1, 2):
            rows.start(node)
        one, two = rows.do(0, "send", 1), rows.do(0, "send", 2)
        put = rows.put(0, (), "a", ("value", 1))
        self.case(5, rows.row, [((1, 0, 1), (0, 1), ("hear", heard)) for heard in (two, put, (0, 0, 0), (2, 0, 0), (1, 0, 0))],
                  [((1, 0, 1), (0, 1), ("hear", one)), ((2, 0, 1), (0, 1), ("hear", two))])

    def test_6_nothing_goes_to_its_own_node(self):
        rows = Rows()
        rows.start(0)
        give = rows.give(0, (), "a", 5, 1)
        deeds = (("send",), ("give", (), "a", (5, 1)), ("pass", give), ("hand", ()))
        self.case(6, rows.row, [((0, 0, 2), (0, 1), deed + (0,)) for deed in deeds],
                  [((0, 0, 2), (0, 1), deed + (1,)) for deed in deeds])

    def test_7_pages_in_the_past(self):
        rows = Rows()
        rows.start(0)
        rows.start(1)
        page = rows.put(0, (), "p", ("page", 1, ()))
        value = rows.put(0, (), "v", ("value", 1))
        bad = []
        for term in (page, value, (5, 5, 5)):
            for deed in (("put", term, "a", ("value", 1)), ("give", term, "a", (1, 1), 2), ("hand", term, 2)):
                bad.append(((1, 0, 1), (0, 1), deed))
        self.case(7, rows.row, bad, [((0, 0, 3), (0, 1), ("give", (), "p", (1, 1), 2))])
        rows.letter(0, 1)
        good = [((1, 0, 2), (0, 1), deed) for deed in (("put", page, "a", ("value", 1)), ("give", page, "a", (1, 1), 2), ("hand", page, 2))]
        self.case(7, rows.row, [((1, 0, 2), (0, 1), ("hand", value, 2)), ((1, 0, 2), (0, 1), ("give", (0, 0, 0), "a", (1, 1), 2))], good)

    def test_7_the_keeper(self):
        rows = Rows()
        rows.start(0)
        rows.start(1)
        self.case(7, rows.row, [((1, 0, 1), (0, 1), ("put", (), "a", ("value", 1))), ((1, 0, 1), (0, 1), ("hand", (), 2))],
                  [((0, 0, 1), (0, 1), ("put", (), "a", ("value", 1)))])
        rows.do(0, "hand", (), 1)
        both = [((0, 0, 2), (0, 1), ("put", (), "a", ("value", 1))), ((1, 0, 1), (0, 1), ("put", (), "a", ("value", 1)))]
        self.case(7, rows.row, both, [])
        rows.letter(0, 1)
        self.case(7, rows.row, [((0, 0, 3), (0, 1), ("hand", (), 2))], [((1, 0, 2), (0, 1), ("hand", (), 2)), ((1, 0, 2), (0, 1), ("hand", (), 0))])
        rows.do(1, "hand", (), 0)
        rows.letter(1, 0)
        self.case(7, rows.row, [((1, 0, 4), (0, 1), ("hand", (), 2))], [((0, 0, 4), (0, 1), ("hand", (), 2))])

    def deep(self, pages):
        """A row of node 0 with so many pages one beneath another, and the term of the last."""
        rows, term = Rows(), ()
        rows.start(0)
        for _ in range(pages):
            term = rows.put(0, term, "p", ("page", 0, ()))
        return rows, term

    def test_8_five_pointers_and_six(self):
        rows, term = self.deep(5)
        page = ((0, 0, 6), (0, 1), ("put", term, "p", ("page", 0, ())))
        self.case(8, rows.row, [page], [((0, 0, 6), (0, 1), ("put", term, "p", ("value", 1)))])
        rows, term = self.deep(4)
        self.case(8, rows.row, [], [((0, 0, 5), (0, 1), ("put", term, "p", ("page", 0, ())))])

    def test_8_also_where_the_pointers_stand_no_more(self):
        rows, term = self.deep(5)
        rows.put(0, (), "p", None)
        self.case(8, rows.row, [((0, 0, 7), (0, 1), ("put", term, "q", ("page", 1, ())))],
                  [((0, 0, 7), (0, 1), ("put", (), "q", ("page", 1, ())))])

    def test_8_what_stands_already(self):
        rows = Rows()
        rows.start(0)
        page = rows.put(0, (), "p", ("page", 0, (("a", ("value", 1)), ("b", ("name", ("x",))))))
        rows.put(0, (), "v", ("value", 7))

        def put(term, label, entry):
            return ((0, 0, 3), (0, 1), ("put", term, label, entry))

        same = [put((), "v", ("value", 7)), put((), "n", None), put(page, "a", ("value", 1)), put(page, "b", ("name", ("x",))), put(page, "c", None)]
        other = [put((), "v", None), put((), "v", ("value", 8)), put((), "n", ("value", 7)), put(page, "a", None), put(page, "b", ("name", ("y",))),
                 put((), "p", ("page", 0, (("a", ("value", 1)), ("b", ("name", ("x",)))))), put((), "p", None)]
        self.case(8, rows.row, same, other)
        rows.put(0, page, "a", None)
        self.case(8, rows.row, [((0, 0, 4), (0, 1), ("put", page, "a", None))], [((0, 0, 4), (0, 1), ("put", page, "a", ("value", 1)))])

    def test_9_holders(self):
        rows = Rows()
        for node in (0, 1, 2):
            rows.start(node)
        give = rows.give(0, (), "a", 9, 1)
        put = rows.put(0, (), "b", ("value", 1))
        self.case(9, rows.row, [((1, 0, 1), (0, 1), ("swear", give)), ((0, 0, 3), (0, 1), ("swear", put)), ((0, 0, 3), (0, 1), ("pass", (9, 9, 9), 1))],
                  [((0, 0, 3), (0, 1), ("swear", give)), ((0, 0, 3), (0, 1), ("pass", give, 2))])
        rows.letter(0, 1)
        rows.letter(0, 2)
        self.case(9, rows.row, [((2, 0, 2), (0, 1), ("swear", give)), ((2, 0, 2), (0, 1), ("pass", give, 1))],
                  [((1, 0, 2), (0, 1), ("swear", give)), ((1, 0, 2), (0, 1), ("pass", give, 2)), ((1, 0, 2), (0, 1), ("pass", give, 0))])
        rows.do(1, "pass", give, 2)
        self.case(9, rows.row, [((2, 0, 2), (0, 1), ("swear", give))], [((1, 0, 3), (0, 1), ("swear", give))])
        rows.letter(1, 2)
        self.case(9, rows.row, [], [((2, 0, 3), (0, 1), ("swear", give)), ((2, 0, 3), (0, 1), ("pass", give, 1))])

    def test_9_sworn_off_for_ever(self):
        rows = Rows()
        for node in (0, 1, 2):
            rows.start(node)
        give = rows.give(0, (), "a", 9, 1)
        rows.letter(0, 1)
        rows.do(1, "pass", give, 2)
        rows.do(1, "swear", give)
        again = [((1, 0, 4), (0, 1), ("swear", give)), ((1, 0, 4), (0, 1), ("pass", give, 2))]
        self.case(9, rows.row, again, [((0, 0, 3), (0, 1), ("swear", give))])
        rows.letter(1, 2)
        rows.do(2, "pass", give, 1)
        rows.letter(2, 1)
        self.case(9, rows.row, [((1, 0, 6), (0, 1), deed) for deed in (("swear", give), ("pass", give, 2))],
                  [((2, 0, 4), (0, 1), ("swear", give))])

    def test_9_handed_over(self):
        rows = Rows()
        rows.start(0)
        rows.start(1)
        page = rows.put(0, (), "p", ("page", 0, ()))
        one, two = rows.give(0, (), "a", 9, 1), rows.give(0, page, "a", 9, 1)
        rows.letter(0, 1)
        rows.do(0, "hand", page, 1)

        def deed(*parts):
            return ((0, 0, 6), (0, 1), parts)

        self.case(9, rows.row, [deed("swear", two), deed("pass", two, 1)],
                  [deed("swear", one), deed("pass", one, 1), ((1, 0, 2), (0, 1), ("swear", two)), ((1, 0, 2), (0, 1), ("pass", two, 2))])
        rows.letter(0, 1)
        rows.do(1, "hand", page, 0)
        rows.letter(1, 0)
        three = rows.give(0, page, "b", 9, 1)
        self.case(9, rows.row, [((0, 0, 9), (0, 1), ("swear", two))], [((0, 0, 9), (0, 1), ("swear", three))])

    def test_10_weighty_deeds_and_starts(self):
        deeds = (("put", (), "a", ("value", 1)), ("give", (), "a", (1, 1), 2), ("hand", (), 1), ("pass", (0, 0, 1), 2), ("swear", (0, 0, 1)))
        for deed in deeds:
            rows = Rows()
            rows.start(0)
            give = rows.give(0, (), "a", 5, 1)
            rows.do(0, *deed)
            self.case(10, rows.row, [((0, 1, 0), (0, 1), ("start", kept)) for kept in ((0, 0, 0), give, None)],
                      [((0, 1, 0), (0, 1), ("start", (0, 0, 2)))])
            rows = Rows()
            rows.start(0)
            give = rows.give(0, (), "a", 5, 1)
            rows.start(0, give, life=2)
            self.case(10, rows.row, [((0, 0, 2), (0, 1), deed)], [((0, 2, 1), (0, 1), deed), ((0, 0, 2), (0, 1), ("tick",))])

    def test_10_lives_between(self):
        rows = Rows()
        rows.start(0)
        rows.start(0, (0, 0, 0), life=3)
        rows.put(0, (), "a", ("value", 1))
        self.case(10, rows.row, [((0, 4, 0), (0, 1), ("start", (0, 3, 0)))],
                  [((0, 4, 0), (0, 1), ("start", (0, 3, 1))), ((0, 2, 0), (0, 1), ("start", (0, 0, 0)))])

    def test_11_a_lost_life_hears_a_later_one(self):
        rows = Rows()
        rows.start(0)
        rows.start(0, (0, 0, 0))
        rows.start(1)
        rows.letter(0, 1)
        heard = rows.do(1, "send", 0)
        self.case(11, rows.row, [((0, 0, 1), (0, 1), ("hear", heard))], [((0, 1, 2), (0, 1), ("hear", heard)), ((0, 0, 1), (0, 1), ("tick",))])

    def test_11_by_the_lines_of_others(self):
        rows = Rows()
        rows.start(0)
        rows.start(0, (0, 0, 0))
        rows.start(1)
        rows.start(1, (1, 0, 0))
        sent = rows.do(0, "send", 1, life=1)
        back = rows.do(1, "send", 0, life=1)
        rows.do(1, "hear", sent, life=0)
        self.case(11, rows.row, [((0, 0, 1), (0, 1), ("hear", back))], [((0, 1, 2), (0, 1), ("hear", back))])

    def test_no_tuples(self):
        for value in ANYTHING:
            if not isinstance(value, tuple):
                self.assertEqual(told(check_view, value), ("BadView", -1))
        self.assertEqual(told(check_view, list(TAIL)), ("BadView", -1))
        self.assertEqual(told(check_view, ()), ("gives", ()))
        self.assertEqual(told(check_view, (TAIL,)), ("BadView", 0))


if __name__ == "__main__":
    unittest.main()
