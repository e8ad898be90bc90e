"""The examples of chapters 3 to 10 of the document, word for word."""

import unittest

from tests.examples import run_examples

CHAPTER_3 = r"""
>>> from goodtill.rates import check_fraction, fraction_of, fraction_text, is_below, low_of, minus, over, plus, read_fraction, times, top_of
>>> check_fraction((-3, 4)), fraction_of(6, -4), fraction_of(0, -7), fraction_of(8, 2)
((-3, 4), (-3, 2), (0, 1), (4, 1))
>>> check_fraction((0, 2))
raises BadFraction(2)
>>> check_fraction((True, 0))
raises BadFraction(0)
>>> plus((1, 6), (1, 3)), minus((1, 6), (1, 3)), times((-2, 3), (3, 4)), over((1, 2), (-3, 4))
((1, 2), (-1, 6), (-1, 2), (-2, 3))
>>> is_below((1, 3), (1, 2)), is_below((1, 2), (1, 2)), top_of((None, (1, 3), (-5, 1))), low_of((None, (1, 3), (-5, 1))), top_of((None,))
(True, False, (1, 3), (-5, 1), None)
>>> over((1, 2), (0, 1))
raises Refused((0, 1))
>>> fraction_text((-3, 4)), fraction_text((5, 1)), read_fraction("-3/4"), read_fraction("0")
('-3/4', '5', (-3, 4), (0, 1))
>>> read_fraction("6/4")
raises BadText(2)
>>> read_fraction("6/4 ")
raises BadText(3)
>>> read_fraction("12/")
raises BadText(3)
>>> read_fraction("-05")
raises BadText(1)
"""

CHAPTER_4 = r"""
>>> from goodtill.labels import check_label, check_name, gap_of, is_inside, joined_name
>>> check_label("abcdefgh"), check_name(("a", "zz"))
('abcdefgh', ('a', 'zz'))
>>> check_label("abcdefghi")
raises BadLabel(8)
>>> check_label("ab-")
raises BadLabel(2)
>>> check_name(("a", ""))
raises BadName(1)
>>> is_inside("a", "ab", "b"), is_inside("a", "a", None), is_inside(None, "a", None), is_inside("b", "ab", None)
(True, False, True, False)
>>> gap_of(("b", "ba", "d"), "bab"), gap_of(("b", "ba", "d"), "az"), gap_of(("b",), "c"), gap_of((), "q")
(('ba', 'd'), (None, 'b'), ('b', None), (None, None))
>>> gap_of(("b", "d"), "d")
raises Refused('d')
>>> joined_name(("a", "b"), ("c",)), joined_name(("a", "b"), ()), joined_name(("a", "b", "c"), ("d", "e", "f", "g"))
(('a', 'b', 'c'), ('a', 'b'), None)
"""

CHAPTER_5 = r"""
>>> from goodtill.wire import decode_event, decode_stream, encode_event, encode_stream, pack_events, unpack_events
>>> encode_event(((5, 0, 300), (-3, 2), ("tick",))), encode_event(((5, 1, 0), (7, 1), ("start", (5, 0, 2))))
((5, 0, 172, 2, 5, 2, 1), (5, 1, 0, 14, 1, 0, 6, 0, 2))
>>> encode_event(((0, 0, 1), (0, 1), ("put", (), "ab", ("page", 3, (("z", ("value", 200)),)))))
(0, 0, 1, 0, 1, 4, 0, 2, 0, 1, 3, 3, 1, 1, 25, 1, 200, 1, 0)
>>> encode_event(((2, 0, 9), (1, 2), ("tell", ("a",), 8, (("page", 3, (0, 0, 1)), (("c", "d"),)))))
(2, 0, 9, 2, 2, 9, 1, 1, 0, 8, 1, 3, 1, 0, 1, 1, 2, 1, 2, 1, 3)
>>> decode_event([0, 0, 1, 0, 1, 4, 0, 1, 0, 3, 1, 0]), decode_event((4, 0, 2, 6, 4, 2, 31))
(((0, 0, 1), (0, 1), ('put', (), 'a', ('page', 1, ()))), ((4, 0, 2), (3, 4), ('send', 31)))
>>> decode_event([0, 0, 1, 4, 8])
raises BadOctets(4)
>>> decode_event([0, 0, 1, 4, 136])
raises BadOctets(4)
>>> decode_event([0, 0, 1, 4, 3])
raises BadOctets(5)
>>> pack_events(()), pack_events((((5, 0, 0), (0, 1), ("start", None)), ((5, 0, 1), (2, 1), ("hear", (4, 0, 2)))))
((0,), (2, 5, 0, 0, 0, 1, 0, 0, 5, 0, 1, 4, 1, 3, 4, 0, 2))
>>> unpack_events([1, 5, 0, 0, 0, 1, 0, 0]), unpack_events((0,))
((((5, 0, 0), (0, 1), ('start', None)),), ())
>>> unpack_events([2, 5, 0, 0, 0, 1, 0, 0])
raises BadOctets(8)
>>> decode_stream([5, 0, 0, 0, 1, 1, 5, 0]), decode_stream(())
(((((5, 0, 0), (0, 1), ('tick',)),), (5, 0)), ((), ()))
>>> decode_stream((5, 0, 0, 0, 1, 1, 32))
raises BadOctets(6)
"""

CHAPTER_6 = r"""
>>> from goodtill.events import check_entry, check_event, check_roster
>>> check_event(((3, 0, 2), (7, 2), ("send", 4))), check_entry(("page", 4, (("a", ("value", 5)), ("b", ("name", ("x", "y"))))))
(((3, 0, 2), (7, 2), ('send', 4)), ('page', 4, (('a', ('value', 5)), ('b', ('name', ('x', 'y'))))))
>>> check_event(((3, 0, 2), (14, 4), ("tock",)))
raises BadEvent(1)
>>> check_entry(("page", 4, (("b", ("value", 5)), ("a", ("value", 6)))))
raises BadEvent(2)
>>> check_roster(((1, 1), (3, 2), (0, 5)))
raises BadRoster(1)
"""

CHAPTER_7 = r"""
>>> from goodtill.views import check_view, common_view, is_behind, life_gaps, line_of, newest_of, past_of, view_of
>>> first = (((0, 0, 0), (0, 1), ("start", None)), ((0, 0, 1), (1, 2), ("put", (), "a", ("value", 5))), ((0, 0, 2), (1, 1), ("send", 1)))
>>> row = first + (((1, 0, 0), (7, 1), ("start", None)), ((1, 0, 1), (7, 1), ("hear", (0, 0, 2))), ((0, 0, 3), (2, 1), ("tick",)))
>>> view_of(row, 1) == row[:5], view_of(row, 2), past_of(row, (0, 0, 1)) == row[:2], line_of(row, 1) == row[3:5], newest_of(row, 0)
(True, (), True, True, (0, 0, 3))
>>> check_view(row) == row
True
>>> check_view(row + (((0, 0, 4), (2, 1), ("put", (), "a", ("value", 5))),))
raises BadView(6)
>>> check_view(row + (((0, 1, 0), (3, 1), ("start", (0, 0, 0))), None))
raises BadView(6)
>>> lost = row + (((0, 1, 0), (3, 1), ("start", (0, 0, 1))), ((0, 1, 1), (3, 1), ("tick",)))
>>> life_gaps(lost), life_gaps(view_of(lost, 0)), life_gaps((((5, 2, 0), (0, 1), ("start", None)),))
((((0, 0, 3), (0, 1, 0)),), (((0, 0, 1), (0, 1, 0)),), ((None, (5, 2, 0)),))
>>> common_view(row, 0) == first, common_view(row, 1) == first, len(common_view(lost, 0)), common_view(first[:2], 0)
(True, True, 3, ())
>>> common_view(row, 2)
raises Refused(2)
"""

CHAPTER_8 = r"""
>>> from goodtill.webs import positive_ring, ring_serves, ways_from, ways_to, web_of
>>> roster = ((1, 2), (1, 1))
>>> zero = (((0, 0, 0), (0, 1), ("start", None)), ((0, 0, 1), (3, 1), ("send", 1)))
>>> one = (((1, 0, 0), (10, 1), ("start", None)), ((1, 0, 1), (10, 1), ("hear", (0, 0, 1))), ((1, 0, 2), (12, 1), ("send", 0)))
>>> answer = ((0, 0, 2), (7, 1), ("hear", (1, 0, 2)))
>>> web = web_of(roster, zero + one)
>>> web.way((0, 0, 0), (1, 0, 2)), web.way((1, 0, 1), (0, 0, 1)), web.add(answer), web.way((1, 0, 1), (0, 0, 1))
((5, 1), None, None, (-6, 1))
>>> web.ids()
((0, 0, 0), (0, 0, 1), (0, 0, 2), (1, 0, 0), (1, 0, 1), (1, 0, 2))
>>> web.way((1, 0, 3), (2, 0, 0))
raises Refused((1, 0, 3))
>>> ways_from(roster, zero + one + (answer,), (0, 0, 2))
((-14, 1), (-8, 1), (-8, 1), (-8, 1), (-6, 1), (0, 1))
>>> ways_to(roster, zero + one + (answer,), (0, 0, 2))
((7, 1), (4, 1), (2, 1), (2, 1), (0, 1), (0, 1))
>>> soon = ((0, 0, 2), (7, 2), ("hear", (1, 0, 2)))
>>> ring = ((0, 0, 1), (1, 0, 1), (1, 0, 2), (0, 0, 2))
>>> positive_ring(roster, zero + one + (answer,)), ring_serves(roster, zero + one + (soon,), ring), ring_serves(roster, zero + one + (answer,), ring)
(None, True, False)
>>> web_of(roster, zero + one + (soon,))
raises Refused((0, 0, 2))
"""

CHAPTER_9 = r"""
>>> from goodtill.fits import earliest_fit, fit_fault, latest_fit, met_wishes, mixed_fit
>>> roster = ((1, 2), (1, 1))
>>> zero = (((0, 0, 0), (0, 1), ("start", None)), ((0, 0, 1), (3, 1), ("send", 1)))
>>> one = (((1, 0, 0), (10, 1), ("start", None)), ((1, 0, 1), (10, 1), ("hear", (0, 0, 1))), ((1, 0, 2), (12, 1), ("send", 0)))
>>> events = zero + one + (((0, 0, 2), (7, 1), ("hear", (1, 0, 2))),)
>>> fit_fault(roster, events, ((-7, 1), (-4, 1), (-2, 1), (-2, 1), (0, 1), (0, 1)))
None
>>> fit_fault(roster, events, ((-7, 1), (-4, 1), (-2, 1), (-2, 1), (-1, 9), (0, 1)))
4
>>> earliest_fit(roster, events, (0, 0, 2), (0, 1))
((-14, 1), (-8, 1), (-8, 1), (-8, 1), (-6, 1), (0, 1))
>>> latest_fit(roster, events, (0, 0, 2))
((-7, 1), (-4, 1), (-2, 1), (-2, 1), (0, 1), (0, 1))
>>> latest_fit(roster, events, (0, 0, 1))
((-3, 1), (0, 1), (6, 1), (6, 1), (8, 1), (8, 1))
>>> latest_fit(roster, events[:4], (0, 0, 1))
raises Refused((1, 0, 0))
>>> mixed_fit(earliest_fit(roster, events, (0, 0, 2), (0, 1)), latest_fit(roster, events, (0, 0, 2)), (1, 2))
((-21, 2), (-6, 1), (-5, 1), (-5, 1), (-3, 1), (0, 1))
>>> met_wishes(roster, events, (((1, 0, 1), (0, 0, 2), (9, 1)),))
None
>>> met_wishes(roster, events, (((0, 0, 1), (1, 0, 1), (5, 1)), ((1, 0, 2), (0, 0, 2), (5, 1))))
None
>>> fit_fault(roster, events, met_wishes(roster, events, (((0, 0, 1), (1, 0, 1), (5, 1)),)))
None
>>> met_wishes(roster, events, (((0, 0, 1), (0, 0, 5), (5, 1)),))
raises Refused((0, 0, 5))
"""

CHAPTER_10 = r"""
>>> from goodtill.runs import World, are_alike, check_run, is_stale, lost_puts, seen_by, walk_truth
>>> roster = ((1, 2), (1, 1))
>>> world = World(roster)
>>> world.add(((0, 0, 0), (0, 1), ("start", None)), (0, 1))
>>> world.add(((0, 0, 1), (1, 1), ("put", (), "a", ("value", 5))), (2, 1))
>>> world.add(((0, 0, 2), (1, 1), ("send", 1)), (2, 1))
>>> world.add(((1, 0, 0), (7, 1), ("start", None)), (2, 1))
>>> world.add(((1, 0, 1), (10, 1), ("hear", (0, 0, 2))), (5, 1))
>>> world.add(((1, 0, 2), (10, 1), ("tell", ("a",), 0, (("value", 5), ()))), (5, 1))
>>> world.add(((0, 0, 3), (2, 1), ("put", (), "a", None)), (5, 1))
raises BadDeed(0)
>>> world.add(((0, 0, 3), (3, 1), ("put", (), "a", None)), (5, 1))
>>> run = world.run()
>>> check_run(roster, run) == run, is_stale(run, 5), world.walk(("a",), 0), walk_truth(run, 6, ("a",), 0)
(True, False, (('nothing',), ()), (('value', 5), ()))
>>> seen_by(run, 4, 1), [event[0] for event in world.view(1)]
((((1, 0, 0), (7, 1), ('start', None)),), [(0, 0, 0), (0, 0, 1), (0, 0, 2), (1, 0, 0), (1, 0, 1), (1, 0, 2)])
>>> late = run + ((((0, 1, 0), (3, 1), ("start", (0, 0, 2))), (5, 1)),)
>>> lost_puts(late), walk_truth(late, 8, ("a",), 0), are_alike(run, late, (1, 0, 2))
(((0, 0, 3),), (('value', 5), ()), True)
>>> check_run(roster, run + (run[6],))
raises BadRun(7)
>>> is_stale(late, 0)
raises Refused(0)
>>> are_alike(run, late, (0, 1, 0))
raises Refused((0, 1, 0))
"""


class Examples(unittest.TestCase):
    def test_chapter_3(self):
        self.assertEqual(run_examples(self, CHAPTER_3), 12)

    def test_chapter_4(self):
        self.assertEqual(run_examples(self, CHAPTER_4), 9)

    def test_chapter_5(self):
        self.assertEqual(run_examples(self, CHAPTER_5), 13)

    def test_chapter_6(self):
        self.assertEqual(run_examples(self, CHAPTER_6), 5)

    def test_chapter_7(self):
        self.assertEqual(run_examples(self, CHAPTER_7), 11)

    def test_chapter_8(self):
        self.assertEqual(run_examples(self, CHAPTER_8), 15)

    def test_chapter_9(self):
        self.assertEqual(run_examples(self, CHAPTER_9), 16)

    def test_chapter_10(self):
        self.assertEqual(run_examples(self, CHAPTER_10), 19)


if __name__ == "__main__":
    unittest.main()
