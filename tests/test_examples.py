"""The examples of chapters 3 to 10 of the document, word for word."""

import unittest

from tests.examples import run_examples

CHAPTER_3 = r"""
>>> from goodtill.rates import check_fraction, fraction_of, fraction_text, is_below, low_of, minus, over, plus, read_fraction, times, top_of
>>> check_fraction((-3, 4)), fraction_of(6, -4), fraction_of(0, -7), fraction_of(8, 2)
((-3, 4), (-3, 2), (0, 1), (4, 1))
>>> check_fraction((0, 2))
raises BadFraction(2)
>>> check_fraction((True, 0))
raises BadFraction(0)
>>> plus((1, 6), (1, 3)), minus((1, 6), (1, 3)), times((-2, 3), (3, 4)), over((1, 2), (-3, 4))
((1, 2), (-1, 6), (-1, 2), (-2, 3))
>>> is_below((1, 3), (1, 2)), is_below((1, 2), (1, 2)), top_of((None, (1, 3), (-5, 1))), low_of((None, (1, 3), (-5, 1))), top_of((None,))
(True, False, (1, 3), (-5, 1), None)
>>> over((1, 2), (0, 1))
raises Refused((0, 1))
>>> fraction_text((-3, 4)), fraction_text((5, 1)), read_fraction("-3/4"), read_fraction("0")
('-3/4', '5', (-3, 4), (0, 1))
>>> read_fraction("6/4")
raises BadText(2)
>>> read_fraction("6/4 ")
raises BadText(3)
>>> read_fraction("12/")
raises BadText(3)
>>> read_fraction("-05")
raises BadText(1)
"""

CHAPTER_4 = r"""
>>> from goodtill.labels import check_label, check_name, gap_of, is_inside, joined_name
>>> check_label("abcdefgh"), check_name(("a", "zz"))
('abcdefgh', ('a', 'zz'))
>>> check_label("abcdefghi")
raises BadLabel(8)
>>> check_label("ab-")
raises BadLabel(2)
>>> check_name(("a", ""))
raises BadName(1)
>>> is_inside("a", "ab", "b"), is_inside("a", "a", None), is_inside(None, "a", None), is_inside("b", "ab", None)
(True, False, True, False)
>>> gap_of(("b", "ba", "d"), "bab"), gap_of(("b", "ba", "d"), "az"), gap_of(("b",), "c"), gap_of((), "q")
(('ba', 'd'), (None, 'b'), ('b', None), (None, None))
>>> gap_of(("b", "d"), "d")
raises Refused('d')
>>> joined_name(("a", "b"), ("c",)), joined_name(("a", "b"), ()), joined_name(("a", "b", "c"), ("d", "e", "f", "g"))
(('a', 'b', 'c'), ('a', 'b'), None)
"""

CHAPTER_5 = r"""
>>> from goodtill.wire import decode_event, decode_stream, encode_event, encode_stream, pack_events, unpack_events
>>> encode_event(((5, 0, 300), (-3, 2), ("tick",))), encode_event(((5, 1, 0), (7, 1), ("start", (5, 0, 2))))
((5, 0, 172, 2, 5, 2, 1), (5, 1, 0, 14, 1, 0, 6, 0, 2))
>>> encode_event(((0, 0, 1), (0, 1), ("put", (), "ab", ("page", 3, (("z", ("value", 200)),)))))
(0, 0, 1, 0, 1, 4, 0, 2, 0, 1, 3, 3, 1, 1, 25, 1, 200, 1, 0)
>>> encode_event(((2, 0, 9), (1, 2), ("tell", ("a",), 8, (("page", 3, (0, 0, 1)), (("c", "d"),)))))
(2, 0, 9, 2, 2, 9, 1, 1, 0, 8, 1, 3, 1, 0, 1, 1, 2, 1, 2, 1, 3)
>>> decode_event([0, 0, 1, 0, 1, 4, 0, 1, 0, 3, 1, 0]), decode_event((4, 0, 2, 6, 4, 2, 31))
(((0, 0, 1), (0, 1), ('put', (), 'a', ('page', 1, ()))), ((4, 0, 2), (3, 4), ('send', 31)))
>>> decode_event([0, 0, 1, 4, 8])
raises BadOctets(4)
>>> decode_event([0, 0, 1, 4, 136])
raises BadOctets(4)
>>> decode_event([0, 0, 1, 4, 3])
raises BadOctets(5)
>>> pack_events(()), pack_events((((5, 0, 0), (0, 1), ("start", None)), ((5, 0, 1), (2, 1), ("hear", (4, 0, 2)))))
((0,), (2, 5, 0, 0, 0, 1, 0, 0, 5, 0, 1, 4, 1, 3, 4, 0, 2))
>>> unpack_events([1, 5, 0, 0, 0, 1, 0, 0]), unpack_events((0,))
((((5, 0, 0), (0, 1), ('start', None)),), ())
>>> unpack_events([2, 5, 0, 0, 0, 1, 0, 0])
raises BadOctets(8)
>>> decode_stream([5, 0, 0, 0, 1, 1, 5, 0]), decode_stream(())
(((((5, 0, 0), (0, 1), ('tick',)),), (5, 0)), ((), ()))
>>> decode_stream((5, 0, 0, 0, 1, 1, 32))
raises BadOctets(6)
"""

CHAPTER_6 = r"""
>>> from goodtill.events import check_entry, check_event, check_roster
>>> check_event(((3, 0, 2), (7, 2), ("send", 4))), check_entry(("page", 4, (("a", ("value", 5)), ("b", ("name", ("x", "y"))))))
(((3, 0, 2), (7, 2), ('send', 4)), ('page', 4, (('a', ('value', 5)), ('b', ('name', ('x', 'y'))))))
>>> check_event(((3, 0, 2), (14, 4), ("tock",)))
raises BadEvent(1)
>>> check_entry(("page", 4, (("b", ("value", 5)), ("a", ("value", 6)))))
raises BadEvent(2)
>>> check_roster(((1, 1), (3, 2), (0, 5)))
raises BadRoster(1)
"""

CHAPTER_7 = r"""
>>> from goodtill.views import check_view, common_view, is_behind, life_gaps, line_of, newest_of, past_of, view_of
>>> first = (((0, 0, 0), (0, 1), ("start", None)), ((0, 0, 1), (1, 2), ("put", (), "a", ("value", 5))), ((0, 0, 2), (1, 1), ("send", 1)))
>>> row = first + (((1, 0, 0), (7, 1), ("start", None)), ((1, 0, 1), (7, 1), ("hear", (0, 0, 2))), ((0, 0, 3), (2, 1), ("tick",)))
>>> view_of(row, 1) == row[:5], view_of(row, 2), past_of(row, (0, 0, 1)) == row[:2], line_of(row, 1) == row[3:5], newest_of(row, 0)
(True, (), True, True, (0, 0, 3))
>>> check_view(row) == row
True
>>> check_view(row + (((0, 0, 4), (2, 1), ("put", (), "a", ("value", 5))),))
raises BadView(6)
>>> check_view(row + (((0, 1, 0), (3, 1), ("start", (0, 0, 0))), None))
raises BadView(6)
>>> lost = row + (((0, 1, 0), (3, 1), ("start", (0, 0, 1))), ((0, 1, 1), (3, 1), ("tick",)))
>>> life_gaps(lost), life_gaps(view_of(lost, 0)), life_gaps((((5, 2, 0), (0, 1), ("start", None)),))
((((0, 0, 3), (0, 1, 0)),), (((0, 0, 1), (0, 1, 0)),), ((None, (5, 2, 0)),))
>>> common_view(row, 0) == first, common_view(row, 1) == first, len(common_view(lost, 0)), common_view(first[:2], 0)
(True, True, 3, ())
>>> common_view(row, 2)
raises Refused(2)
"""

CHAPTER_8 = r"""
>>> from goodtill.webs import positive_ring, ring_serves, ways_from, ways_to, web_of
>>> roster = ((1, 2), (1, 1))
>>> zero = (((0, 0, 0), (0, 1), ("start", None)), ((0, 0, 1), (3, 1), ("send", 1)))
>>> one = (((1, 0, 0), (10, 1), ("start", None)), ((1, 0, 1), (10, 1), ("hear", (0, 0, 1))), ((1, 0, 2), (12, 1), ("send", 0)))
>>> answer = ((0, 0, 2), (7, 1), ("hear", (1, 0, 2)))
>>> web = web_of(roster, zero + one)
>>> web.way((0, 0, 0), (1, 0, 2)), web.way((1, 0, 1), (0, 0, 1)), web.add(answer), web.way((1, 0, 1), (0, 0, 1))
((5, 1), None, None, (-6, 1))
>>> web.ids()
((0, 0, 0), (0, 0, 1), (0, 0, 2), (1, 0, 0), (1, 0, 1), (1, 0, 2))
>>> web.way((1, 0, 3), (2, 0, 0))
raises Refused((1, 0, 3))
>>> ways_from(roster, zero + one + (answer,), (0, 0, 2))
((-14, 1), (-8, 1), (-8, 1), (-8, 1), (-6, 1), (0, 1))
>>> ways_to(roster, zero + one + (answer,), (0, 0, 2))
((7, 1), (4, 1), (2, 1), (2, 1), (0, 1), (0, 1))
>>> soon = ((0, 0, 2), (7, 2), ("hear", (1, 0, 2)))
>>> ring = ((0, 0, 1), (1, 0, 1), (1, 0, 2), (0, 0, 2))
>>> positive_ring(roster, zero + one + (answer,)), ring_serves(roster, zero + one + (soon,), ring), ring_serves(roster, zero + one + (answer,), ring)
(None, True, False)
>>> web_of(roster, zero + one + (soon,))
raises Refused((0, 0, 2))
"""

CHAPTER_9 = r"""
>>> from goodtill.fits import earliest_fit, fit_fault, latest_fit, met_wishes, mixed_fit
>>> roster = ((1, 2), (1, 1))
>>> zero = (((0, 0, 0), (0, 1), ("start", None)), ((0, 0, 1), (3, 1), ("send", 1)))
>>> one = (((1, 0, 0), (10, 1), ("start", None)), ((1, 0, 1), (10, 1), ("hear", (0, 0, 1))), ((1, 0, 2), (12, 1), ("send", 0)))
>>> events = zero + one + (((0, 0, 2), (7, 1), ("hear", (1, 0, 2))),)
>>> fit_fault(roster, events, ((-7, 1), (-4, 1), (-2, 1), (-2, 1), (0, 1), (0, 1)))
None
>>> fit_fault(roster, events, ((-7, 1), (-4, 1), (-2, 1), (-2, 1), (-1, 9), (0, 1)))
4
>>> earliest_fit(roster, events, (0, 0, 2), (0, 1))
((-14, 1), (-8, 1), (-8, 1), (-8, 1), (-6, 1), (0, 1))
>>> latest_fit(roster, events, (0, 0, 2))
((-7, 1), (-4, 1), (-2, 1), (-2, 1), (0, 1), (0, 1))
>>> latest_fit(roster, events, (0, 0, 1))
((-3, 1), (0, 1), (6, 1), (6, 1), (8, 1), (8, 1))
>>> latest_fit(roster, events[:4], (0, 0, 1))
raises Refused((1, 0, 0))
>>> mixed_fit(earliest_fit(roster, events, (0, 0, 2), (0, 1)), latest_fit(roster, events, (0, 0, 2)), (1, 2))
((-21, 2), (-6, 1), (-5, 1), (-5, 1), (-3, 1), (0, 1))
>>> met_wishes(roster, events, (((1, 0, 1), (0, 0, 2), (9, 1)),))
None
>>> met_wishes(roster, events, (((0, 0, 1), (1, 0, 1), (5, 1)), ((1, 0, 2), (0, 0, 2), (5, 1))))
None
>>> fit_fault(roster, events, met_wishes(roster, events, (((0, 0, 1), (1, 0, 1), (5, 1)),)))
None
>>> met_wishes(roster, events, (((0, 0, 1), (0, 0, 5), (5, 1)),))
raises Refused((0, 0, 5))
"""

CHAPTER_10 = r"""
>>> from goodtill.runs import World, are_alike, check_run, is_stale, lost_puts, seen_by, walk_truth
>>> roster = ((1, 2), (1, 1))
>>> world = World(roster)
>>> world.add(((0, 0, 0), (0, 1), ("start", None)), (0, 1))
>>> world.add(((0, 0, 1), (1, 1), ("put", (), "a", ("value", 5))), (2, 1))
>>> world.add(((0, 0, 2), (1, 1), ("send", 1)), (2, 1))
>>> world.add(((1, 0, 0), (7, 1), ("start", None)), (2, 1))
>>> world.add(((1, 0, 1), (10, 1), ("hear", (0, 0, 2))), (5, 1))
>>> world.add(((1, 0, 2), (10, 1), ("tell", ("a",), 0, (("value", 5), ()))), (5, 1))
>>> world.add(((0, 0, 3), (2, 1), ("put", (), "a", None)), (5, 1))
raises BadDeed(0)
>>> world.add(((0, 0, 3), (3, 1), ("put", (), "a", None)), (5, 1))
>>> run = world.run()
>>> check_run(roster, run) == run, is_stale(run, 5), world.walk(("a",), 0), walk_truth(run, 6, ("a",), 0)
(True, False, (('nothing',), ()), (('value', 5), ()))
>>> seen_by(run, 4, 1), [event[0] for event in world.view(1)]
((((1, 0, 0), (7, 1), ('start', None)),), [(0, 0, 0), (0, 0, 1), (0, 0, 2), (1, 0, 0), (1, 0, 1), (1, 0, 2)])
>>> late = run + ((((0, 1, 0), (3, 1), ("start", (0, 0, 2))), (5, 1)),)
>>> lost_puts(late), walk_truth(late, 8, ("a",), 0), are_alike(run, late, (1, 0, 2))
(((0, 0, 3),), (('value', 5), ()), True)
>>> check_run(roster, run + (run[6],))
raises BadRun(7)
>>> is_stale(late, 0)
raises Refused(0)
>>> are_alike(run, late, (0, 1, 0))
raises Refused((0, 1, 0))
"""

CHAPTERS_11_AND_12 = r"""
>>> from goodtill.pages import content_of, does_keep, keeper_of, page_gap, page_rows
>>> from goodtill.tree import is_broken, is_fast, walk_view, way_to
>>> start = ((0, 0, 0), (0, 1), ("start", None))
>>> page = ((0, 0, 1), (1, 1), ("put", (), "c", ("page", 0, (("k", ("name", ("b",))),))))
>>> deed = ((0, 0, 2), (1, 1), ("put", (0, 0, 1), "m", ("value", 3)))
>>> name = ((0, 0, 3), (1, 1), ("put", (), "b", ("name", ("c", "m"))))
>>> hand = ((0, 0, 4), (2, 1), ("hand", (0, 0, 1), 4))
>>> events = (start, page, deed, name, hand)
>>> keeper_of(events, ()), keeper_of(events, (0, 0, 1)), does_keep(events, 0, (0, 0, 1)), does_keep(events, 4, ())
(((), 0), ((0, 0, 4), 4), False, False)
>>> content_of(events, (0, 0, 1), "k"), content_of(events, (0, 0, 1), "m"), content_of(events, (), "m")
(((0, 0, 1), ('name', ('b',))), ((0, 0, 2), ('value', 3)), ((), None))
>>> page_rows(events, (0, 0, 1)), page_gap(events, (), "bb")
((('k', ('name', ('b',))), ('m', ('value', 3))), ('b', 'c'))
>>> page_gap(events, (), "b")
raises Refused('b')
>>> keeper_of(events, (0, 0, 2))
raises Refused((0, 0, 2))
>>> walk_view(events, ("b",), 1)
((('value', 3), (('c', 'm'),)), (((), 'b'), ((), 'c'), ((0, 0, 1), 'm')))
>>> walk_view(events, ("b",), 0)[0], walk_view(events, ("c",), 0)[0], walk_view(events, ("b", "a", "a", "a", "a", "a"), 8)[0]
((('far',), (('c', 'm'),)), (('page', 0, (0, 0, 1)), ()), (('long',), (('c', 'm'),)))
>>> way_to(events, (0, 0, 1), "m"), is_broken(events, (0, 0, 1)), is_fast(events, 0, ()), is_fast(events, 0, (0, 0, 1))
((((), 'c'), ((0, 0, 1), 'm')), False, True, True)
>>> sent = events + (((0, 0, 5), (2, 1), ("put", (), "c", None)), ((0, 0, 6), (2, 1), ("send", 4)))
>>> is_broken(sent, (0, 0, 1)), is_fast(sent, 0, (0, 0, 1)), walk_view(sent, ("b",), 1)[0]
(True, False, (('nothing',), (('c', 'm'),)))
>>> is_fast(sent, 4, ())
raises Refused(4)
"""

CHAPTER_13 = r"""
>>> from goodtill.promises import does_stand, gives_on, has_sworn, holders_of, is_past, span_of, ticks_left
>>> asked = (((1, 0, 0), (0, 1), ("start", None)), ((1, 0, 1), (0, 1), ("send", 0)))
>>> house = (((0, 0, 0), (5, 1), ("start", None)), ((0, 0, 1), (5, 1), ("hear", (1, 0, 1))))
>>> gives = (((0, 0, 2), (5, 1), ("put", (), "a", ("value", 7))), ((0, 0, 3), (5, 1), ("give", (), "a", (9, 1), 1)), ((0, 0, 4), (6, 1), ("give", (), "m", (8, 1), 1)))
>>> heard = (((0, 0, 5), (6, 1), ("send", 1)), ((1, 0, 2), (1, 1), ("hear", (0, 0, 5))))
>>> view = asked + house + gives + heard
>>> span_of(view, (0, 0, 3)), span_of(view, (0, 0, 4))
(('label', 'a'), ('gap', 'a', None))
>>> later = view + (((0, 0, 6), (6, 1), ("put", (), "k", ("value", 1))), ((0, 0, 7), (6, 1), ("give", (), "m", (7, 1), 2)))
>>> gives_on(later, (), "m"), gives_on(later, (), "k"), span_of(later, (0, 0, 7))
(((0, 0, 4), (0, 0, 7)), (), ('gap', 'k', None))
>>> moved = later + (((1, 0, 3), (1, 1), ("pass", (0, 0, 3), 2)), ((1, 0, 4), (1, 1), ("swear", (0, 0, 3))), ((0, 0, 8), (6, 1), ("hand", (), 3)))
>>> holders_of(moved, (0, 0, 3)), [has_sworn(moved, (0, 0, 3), node) for node in (0, 1, 2)]
((0, 1, 2), [True, True, False])
>>> roster = ((1, 1), (1, 2))
>>> [ticks_left(roster, view, 1, give) for give in ((0, 0, 3), (0, 0, 4))], ticks_left(roster, view, 0, (0, 0, 3))
([(1, 1), (1, 2)], (3, 1))
>>> on = [view + (((1, 0, 3), reading, ("tick",)),) for reading in ((199, 100), (2, 1), (4, 1))]
>>> [(does_stand(roster, row, 1, (0, 0, 3)), is_past(roster, row, 1, (0, 0, 3))) for row in on]
[(True, False), (False, False), (False, True)]
"""

CHAPTER_14 = r"""
>>> from goodtill.finders import good_ticks, may_tell, why_certain
>>> from goodtill.pocket import pocket_of
>>> roster = ((1, 1), (2, 4), (1, 2))
>>> asked = (((2, 0, 0), (0, 1), ("start", None)), ((2, 0, 1), (0, 1), ("send", 0)))
>>> root = (((0, 0, 0), (5, 1), ("start", None)), ((0, 0, 1), (5, 1), ("hear", (2, 0, 1))), ((0, 0, 2), (5, 1), ("put", (), "b", ("page", 1, (("d", ("value", 3)),)))), ((0, 0, 3), (5, 1), ("put", (), "c", ("name", ("b", "d")))), ((0, 0, 4), (5, 1), ("give", (), "b", (9, 1), 2)), ((0, 0, 5), (5, 1), ("give", (), "c", (7, 1), 2)), ((0, 0, 6), (5, 1), ("send", 1)))
>>> below = (((1, 0, 0), (0, 1), ("start", None)), ((1, 0, 1), (0, 1), ("hear", (0, 0, 6))), ((1, 0, 2), (1, 1), ("give", (0, 0, 2), "a", (3, 1), 2)), ((1, 0, 3), (1, 1), ("give", (0, 0, 2), "d", (7, 4), 2)), ((1, 0, 4), (1, 1), ("send", 2)))
>>> view = asked + root + below + (((2, 0, 2), (3, 2), ("hear", (1, 0, 4))),)
>>> why_certain(roster, view, 2, (), "b"), why_certain(roster, view, 2, (), "c"), why_certain(roster, view, 1, (0, 0, 2), "d")
(('promise', (0, 0, 4)), None, ('own',))
>>> may_tell(roster, view, 2, ("b", "d"), 0), may_tell(roster, view, 2, ("c",), 1), may_tell(roster, view, 2, ("b", "a", "x"), 0)
(('told', (('value', 3), ())), ('not', (), 'c'), ('told', (('nothing',), ())))
>>> good_ticks(roster, view, 2, ("b", "a"), 0), good_ticks(roster, view, 2, ("b", "d"), 0)
((1, 2), (1, 4))
>>> pocket_of(roster, view, 2)
(((), ('label', 'b'), ('page', 1, (('d', ('value', 3)),)), (1, 2)), (('b',), ('open', None, 'd'), None, (1, 2)), (('b',), ('label', 'd'), ('value', 3), (1, 4)))
"""

CHAPTER_15 = r"""
>>> from goodtill.houses import entry_points, may_put, own_end, put_wait, shut_places, why_alive
>>> roster = ((1, 1), (1, 2))
>>> asked = (((0, 0, 0), (0, 1), ("start", None)), ((0, 0, 1), (0, 1), ("put", (), "a", ("value", 5))), ((1, 0, 0), (0, 1), ("start", None)), ((1, 0, 1), (0, 1), ("send", 0)), ((0, 0, 2), (0, 1), ("hear", (1, 0, 1))))
>>> given = asked + (((0, 0, 3), (0, 1), ("give", (), "a", (10, 1), 1)), ((0, 0, 4), (0, 1), ("send", 1)))
>>> entry_points(given, 0), shut_places(given, 0, (), "a"), why_alive(roster, given, 0, (0, 0, 3))
(((1, 0, 1),), (((), 'a'),), ('own', (1, 0, 1)))
>>> why_alive(roster, given[:-1], 0, (0, 0, 3)), why_alive(roster, given + (((0, 0, 5), (10, 1), ("tick",)),), 0, (0, 0, 3))
(None, None)
>>> entry_points(given, 7)
raises Refused(7)
>>> own_end(given, 1, (), "a")
raises Refused(((), 'a'))
>>> shut_places(given, 1, (0, 0, 1), "a")
raises Refused((0, 0, 1))
>>> why_alive(roster, given, 0, (0, 0, 4))
raises Refused((0, 0, 4))
>>> may_put(roster, given, 0, (), "a"), put_wait(roster, given, 0, (), "a"), own_end(given, 0, (), "a")
(('not', ((0, 0, 3),)), (10, 1), (10, 1))
>>> later = given + (((1, 0, 2), (3, 1), ("send", 0)), ((0, 0, 5), (4, 1), ("hear", (1, 0, 2))))
>>> put_wait(roster, later, 0, (), "a"), own_end(later, 0, (), "a")
((4, 1), (6, 1))
>>> may_put(roster, later + (((0, 0, 6), (8, 1), ("tick",)),), 0, (), "a")
('let', ((), 'a'))
>>> may_put(roster, later + (((0, 0, 6), (4, 1), ("send", 1)), ((0, 0, 7), (8, 1), ("tick",))), 0, (), "a")
('not', ((0, 0, 3),))
"""

CHAPTER_16 = r"""
>>> from goodtill.slipjudge import slip_serves
>>> from goodtill.slips import slip_run
>>> roster = ((1, 1), (1, 2))
>>> answer = (("value", 5), ())
>>> asked = (((0, 0, 0), (0, 1), ("start", None)), ((0, 0, 1), (0, 1), ("put", (), "a", ("value", 5))), ((1, 0, 0), (0, 1), ("start", None)), ((1, 0, 1), (0, 1), ("send", 0)))
>>> heard = asked + (((0, 0, 2), (0, 1), ("hear", (1, 0, 1))), ((0, 0, 3), (0, 1), ("give", (), "a", (10, 1), 1)), ((0, 0, 4), (0, 1), ("send", 1)), ((1, 0, 2), (2, 1), ("hear", (0, 0, 4))))
>>> late = heard + (((1, 0, 3), (5, 1), ("tick",)),)
>>> slip_serves(roster, late, 1, ("a",), 0, answer, slip_run(roster, late, 1, ("a",), 0, answer))
True
>>> slip_run(roster, heard, 1, ("a",), 0, answer)
raises Refused((('value', 5), ()))
>>> slip_run(roster, late, 1, ("a",), 0, ("value", 5))
raises Refused(('value', 5))
>>> slip_run(roster, late, 3, ("a",), 0, answer)
raises Refused(3)
>>> instants = ((0, 1), (0, 1), (0, 1), (0, 1), (0, 1), (0, 1), (0, 1), (4, 1), (10, 1))
>>> taken = tuple(zip(late, instants)) + ((((0, 0, 5), (10, 1), ("put", (), "a", None)), (10, 1)),)
>>> slip_serves(roster, late, 1, ("a",), 0, answer, taken + ((((1, 0, 4), (5, 1), ("tell", ("a",), 0, answer)), (10, 1)),))
True
>>> slip_serves(roster, late, 1, ("a",), 0, answer, taken + ((((1, 0, 4), (6, 1), ("tell", ("a",), 0, answer)), (12, 1)),))
False
"""

CHAPTER_17 = r"""
>>> from goodtill.hastejudge import haste_serves
>>> from goodtill.hastes import haste_run
>>> roster = ((1, 1), (1, 2))
>>> given = (((0, 0, 0), (0, 1), ("start", None)), ((0, 0, 1), (0, 1), ("put", (), "a", ("value", 5))), ((1, 0, 0), (0, 1), ("start", None)), ((1, 0, 1), (0, 1), ("send", 0)), ((0, 0, 2), (0, 1), ("hear", (1, 0, 1))), ((0, 0, 3), (0, 1), ("give", (), "a", (10, 1), 1)), ((0, 0, 4), (0, 1), ("send", 1)))
>>> waited = given + (((0, 0, 5), (9, 1), ("tick",)),)
>>> haste_serves(roster, waited, 0, (), "a", ("value", 6), haste_run(roster, waited, 0, (), "a", ("value", 6)))
True
>>> haste_run(roster, waited, 2, (0, 0, 3), "a", None)
raises Refused(2)
>>> haste_run(roster, waited, 0, (0, 0, 3), "a", None)
raises Refused((0, 0, 3))
>>> haste_run(roster, waited, 1, (), "a", None)
raises Refused(((), 'a'))
>>> haste_run(roster, waited, 0, (), "b", None)
raises Refused(((), 'b'))
>>> haste_run(roster, waited, 0, (), "a", ("value", 5))
raises Refused(('value', 5))
>>> instants = ((0, 1), (0, 1), (0, 1), (0, 1), (0, 1), (0, 1), (0, 1), (9, 1))
>>> taken = tuple(zip(waited, instants)) + ((((0, 0, 6), (9, 1), ("put", (), "a", None)), (9, 1)), (((1, 0, 2), (9, 2), ("hear", (0, 0, 4))), (9, 1)))
>>> haste_serves(roster, waited, 0, (), "a", None, taken + ((((1, 0, 3), (9, 2), ("tell", ("a",), 0, (("value", 5), ()))), (9, 1)),))
True
>>> haste_serves(roster, waited, 0, (), "a", None, taken + ((((1, 0, 3), (5, 1), ("tell", ("a",), 0, (("value", 5), ()))), (10, 1)),))
False
"""

CHAPTER_18 = r"""
>>> from goodtill.houses import may_put, put_wait
>>> from goodtill.recall import fewest_swears, left_to_swear, sworn_view
>>> roster = ((1, 1), (1, 2))
>>> given = (((1, 0, 0), (0, 1), ("start", None)), ((1, 0, 1), (0, 1), ("send", 0)), ((0, 0, 0), (0, 1), ("start", None)), ((0, 0, 1), (0, 1), ("hear", (1, 0, 1))), ((0, 0, 2), (0, 1), ("put", (), "a", ("value", 5))), ((0, 0, 3), (0, 1), ("give", (), "a", (10, 1), 1)), ((0, 0, 4), (0, 1), ("send", 1)))
>>> passed = given + (((1, 0, 2), (1, 1), ("hear", (0, 0, 4))), ((1, 0, 3), (1, 1), ("pass", (0, 0, 3), 2)), ((1, 0, 4), (1, 1), ("send", 2)), ((1, 0, 5), (1, 1), ("send", 0)))
>>> two = (((2, 0, 0), (0, 1), ("start", None)), ((2, 0, 1), (0, 1), ("hear", (1, 0, 4))))
>>> heard = passed + (((0, 0, 5), (4, 1), ("hear", (1, 0, 5))),)
>>> left_to_swear(roster, heard, 0, (), "a"), fewest_swears(roster, heard, 0, (), "a"), put_wait(roster, heard, 0, (), "a")
(((((), 'a'), (((0, 0, 3), (1, 2)),)),), 2, (6, 1))
>>> one = sworn_view(heard, ((1, (0, 0, 3)),), 0)
>>> one[len(heard):]
(((1, 0, 6), (1, 1), ('swear', (0, 0, 3))), ((1, 0, 7), (1, 1), ('send', 0)), ((0, 0, 6), (4, 1), ('hear', (1, 0, 7))))
>>> left_to_swear(roster, one, 0, (), "a"), put_wait(roster, one, 0, (), "a")
(((((), 'a'), (((0, 0, 3), (2,)),)),), (6, 1))
>>> sworn_view(heard, ((1, (0, 0, 3)), (2, (0, 0, 3))), 0)
raises Refused((2, (0, 0, 3)))
>>> may_put(roster, sworn_view(heard + two, ((2, (0, 0, 3)), (1, (0, 0, 3))), 0), 0, (), "a")
('let', ((), 'a'))
>>> sworn_view(heard, (), 2)
raises Refused(2)
"""

CHAPTER_19 = r"""
>>> from goodtill.custody import keeper_rows, owed_gives, standing_terms, unknown_to_keeper
>>> zero = (((0, 0, 0), (0, 1), ("start", None)), ((0, 0, 1), (0, 1), ("put", (), "x", ("page", 1, (("a", ("value", 1)),)))), ((0, 0, 2), (0, 1), ("send", 1)))
>>> one = (((1, 0, 0), (0, 1), ("start", None)), ((1, 0, 1), (0, 1), ("hear", (0, 0, 2))), ((1, 0, 2), (0, 1), ("give", (0, 0, 1), "b", (9, 1), 2)), ((1, 0, 3), (0, 1), ("give", (0, 0, 1), "a", (4, 1), 2)))
>>> more = (((1, 0, 4), (1, 1), ("hand", (0, 0, 1), 2)), ((1, 0, 5), (1, 1), ("send", 2)), ((2, 0, 0), (5, 1), ("start", None)), ((2, 0, 1), (5, 1), ("hear", (1, 0, 5))))
>>> owed_gives(zero + one + more, 2, (0, 0, 1)), keeper_rows(zero + one + more, (0, 0, 1))
((('a', ((1, 0, 3),)), ('b', ((1, 0, 2),))), (((0, 0, 1), 1), ((1, 0, 4), 2)))
>>> owed_gives(zero + one + more, 1, (0, 0, 1))
raises Refused((0, 0, 1))
>>> again = (((0, 0, 3), (2, 1), ("put", (), "x", None)), ((0, 0, 4), (2, 1), ("put", (), "x", ("page", 1, (("a", ("value", 1)),)))))
>>> run = tuple(zip(zero + one + more + again, ((0, 1),) * 7 + ((1, 1),) * 4 + ((2, 1),) * 2))
>>> [unknown_to_keeper(run, place, (0, 0, 1)) for place in (5, 7, 11)], [standing_terms(run, place) for place in (1, 2, 12, 13)]
([(), (), ()], [((),), ((), (0, 0, 1)), ((),), ((), (0, 0, 4))])
>>> unknown_to_keeper(run, 8, (0, 0, 1))
raises Refused((0, 0, 1))
"""

CHAPTER_20 = r"""
>>> from goodtill.carry import joined_view, letter_events
>>> row = (((1, 0, 0), (0, 1), ("start", None)), ((1, 0, 1), (1, 1), ("send", 0)), ((0, 0, 0), (0, 1), ("start", None)), ((0, 0, 1), (2, 1), ("hear", (1, 0, 1))), ((1, 0, 2), (2, 1), ("tick",)), ((0, 0, 2), (3, 1), ("send", 1)))
>>> letter_events(row, (0, 0, 2)) == row[2:4] + row[5:]
True
>>> letter_events(row, (1, 0, 2))
raises Refused((1, 0, 2))
>>> joined_view(row[:2] + row[4:5], letter_events(row, (0, 0, 2))) == row[:2] + row[4:5] + row[2:4] + row[5:]
True
>>> joined_view(row[:2], row[2:3] + row[5:] + row[3:4])
raises Refused((0, 0, 2))
>>> from goodtill.tables import Table
>>> table = Table(((1, 1), (1, 2)), 0)
>>> told = [table.tell(event) for event in row[2:3] + row[:2] + row[3:5]]
>>> table.tell(row[5])
raises Refused((0, 0, 2))
>>> table.live(), table.live_common(), table.way((1, 0, 2), (0, 0, 1)), table.way((0, 0, 1), (1, 0, 2))
(((0, 0, 1), (1, 0, 2)), ((1, 0, 1), (1, 0, 2)), (-2, 1), None)
>>> table.way((1, 0, 1), (0, 0, 1))
raises Refused((1, 0, 1))
>>> table = Table(((1, 1), (1, 2)), 0)
>>> deeds = (((0, 0, 0), (0, 1), ("start", None)), ((1, 0, 0), (0, 1), ("start", None)), ((1, 0, 1), (0, 1), ("send", 0)), ((0, 0, 1), (0, 1), ("hear", (1, 0, 1))), ((0, 0, 2), (0, 1), ("give", (), "a", (10, 1), 1)), ((0, 0, 3), (0, 1), ("send", 1)))
>>> told = [table.tell(event) for event in deeds]
>>> table.stands((0, 0, 2)), table.past((0, 0, 2)), table.alive((0, 0, 2)), table.wait((), "a"), table.good(("a",), 0)
(True, False, ('own', (1, 0, 1)), (10, 1), None)
>>> table.tell(((1, 0, 2), (3, 1), ("send", 0)))
>>> table.wait((), "a")
raises Refused(0)
"""

CHAPTER_21_JOURNALS = r"""
>>> from goodtill.journal import Journal, read_journal
>>> journal = Journal(5)
>>> [journal.write(((5, 0, 0), (0, 1), ("start", None))), journal.flush(), journal.write(((4, 0, 0), (0, 1), ("start", None)))]
[None, None, None]
>>> [journal.write(((4, 0, 1), (0, 1), ("send", 5))), journal.write(((5, 0, 1), (1, 2), ("hear", (4, 0, 1)))), journal.cuts()]
[None, None, (1, 4)]
>>> journal.write(((5, 0, 3), (1, 2), ("hear", (4, 0, 9))))
raises Refused((5, 0, 2))
>>> journal.text()
'node 5\n05000000010000 10\n04000000010000 9\n04000100010205 59\n050001020203040001 81\n'
>>> read_journal(journal.text()[:-1])
(((5, 0, 0), (0, 1), ('start', None)),)
"""

CHAPTER_21_STOPS = r"""
>>> from goodtill.stops import Keeper, harm_of, needed_flush, stop_run, stop_serves
>>> roster = ((1, 1), (1, 2))
>>> zero = (((0, 0, 0), (0, 1), ("start", None)), ((0, 0, 1), (0, 1), ("put", (), "a", ("value", 5))), ((0, 0, 2), (0, 1), ("give", (), "a", (10, 1), 1)))
>>> told = ("tell", ("a",), 0, (("value", 5), ()))
>>> [needed_flush(roster, zero, 0, flushed, ("send", 1)) for flushed in (None, (0, 0, 2))], [needed_flush(roster, zero, 0, flushed, told) for flushed in (None, (0, 0, 1))]
([(0, 0, 2), None], [(0, 0, 1), None])
>>> needed_flush(roster, zero, 0, (0, 0, 3), told)
raises Refused((0, 0, 3))
>>> harm_of(stop_run(roster, zero, 0, (0, 0, 0), told))[0], harm_of(stop_run(roster, zero, 0, (0, 0, 1), ("send", 1)))[0]
('stale', 'torn')
>>> run = stop_run(roster, zero, 0, (0, 0, 0), told)
>>> stop_serves(roster, zero, 0, (0, 0, 0), told, run), stop_serves(roster, zero, 0, (0, 0, 0), ("send", 1), run)
(True, False)
>>> keeper = Keeper(roster, 0)
>>> keeper.start((0, 1)), keeper.do(((0, 0, 1), (1, 1), ("put", (), "a", ("value", 5))), ()), keeper.cuts()
(((0, 0, 0), (0, 1), ('start', None)), False, (0, 2))
>>> keeper.do(((0, 0, 2), (1, 1), ("send", 1)), ()), keeper.cuts(), keeper.stop(2), keeper.start((3, 2)), keeper.cuts()
(True, (2, 3), None, ((0, 1, 0), (3, 2), ('start', (0, 0, 1))), (2, 3))
"""

CHAPTER_22 = r"""
>>> from goodtill.asking import asked_run, is_fresh, letters_heard, way_keepers
>>> roster = ((1, 2), (1, 1))
>>> zero = (((0, 0, 0), (0, 1), ("start", None)), ((0, 0, 1), (0, 1), ("put", (), "a", ("page", 1, ()))), ((0, 0, 2), (0, 1), ("send", 1)))
>>> one = (((1, 0, 0), (5, 1), ("start", None)), ((1, 0, 1), (5, 1), ("hear", (0, 0, 2))))
>>> run = tuple([(event, (0, 1)) for event in zero + one]) + ((((1, 0, 2), (9, 1), ("put", (0, 0, 1), "b", ("value", 7))), (4, 1)),)
>>> way_keepers(run, 2, ("a", "b"), 0), way_keepers(run, 1, ("a", "b"), 0), way_keepers(run[:4], 2, ("a", "b"), 0)
((0, 1), (0,), (0,))
>>> is_fresh(run, 2, ("a", "b"), 0), is_fresh(run, 1, ("a", "b"), 0), is_fresh(run[:4], 2, ("a", "b"), 0), is_fresh(run[:4], 2, ("c",), 0)
(True, False, False, True)
>>> letters_heard(run, 0), letters_heard(run, 3)
(1, 0)
>>> asked = asked_run(roster, run, 2, ("a", "b"), 0)
>>> asked[:6] == run, letters_heard(asked, 6), asked[-1][0][2]
(True, 3, ('tell', ('a', 'b'), 0, (('value', 7), ())))
>>> asked_run(roster, run, 1, ("a", "b"), 0)
raises Refused(('a', 'b'))
"""

CHAPTER_23 = r"""
>>> from goodtill.fields import Field
>>> field = Field(((1, 1), (1, 2)), (10, 1))
>>> [field.do(deed) for deed in (("wish", 0, (), "a", ("value", 5)), ("ask", 1, ("a",), 0), ("bring", 0), ("time", (2, 1)))]
[None, None, None, None]
>>> field.under_way(), [event[2][0] for event, instant in field.run()]
((((0, 0, 5), 1),), ['start', 'tick', 'put', 'start', 'ask', 'send', 'hear', 'give', 'send'])
>>> [field.do(deed) for deed in (("clock", 1, (3, 2)), ("time", (1, 1)), ("bring", 0), ("wish", 0, (), "a", None))]
[None, None, None, None]
>>> field.run()[-2], field.done()[1]
((((1, 0, 4), (8, 3), ('tell', ('a',), 0, (('value', 5), ()))), (3, 1)), (('wish', 0, (), 'a', None), (3, 1), None))
>>> field.do(("time", (7, 1))), field.do(("ask", 0, ("a",), 0)), field.done()[1][2], field.run()[-1][0][2]
(None, None, (10, 1), ('tell', ('a',), 0, (('nothing',), ())))
>>> field.do(("bring", 0))
raises BadDeed(0)
"""

CHAPTER_24 = r"""
>>> from goodtill.runs import is_stale
>>> from goodtill.whole import whole_meter, wider_run
>>> roster = ((1, 1), (1, 2))
>>> asked = (((0, 0, 0), (0, 1), ("start", None)), ((0, 0, 1), (0, 1), ("put", (), "a", ("value", 5))), ((1, 0, 0), (0, 1), ("start", None)), ((1, 0, 1), (0, 1), ("send", 0)))
>>> given = asked + (((0, 0, 2), (0, 1), ("hear", (1, 0, 1))), ((0, 0, 3), (0, 1), ("give", (), "a", (10, 1), 1)), ((0, 0, 4), (0, 1), ("send", 1)))
>>> heard = given + (((1, 0, 2), (2, 1), ("hear", (0, 0, 4))),)
>>> late = heard + (((1, 0, 3), (5, 1), ("tick",)),)
>>> run = tuple(zip(late, ((0, 1),) * 7 + ((2, 1), (8, 1))))
>>> [[(node, [row[1][0] for row in tells], [row[1][0] for row in puts]) for node, tells, puts in whole_meter(roster, run, place, (("a",), ("b", "c")), 0)] for place in (2, 8, 9)]
[[(0, ['told', 'told'], ['let'])], [(0, ['told', 'told'], ['haste']), (1, ['told', 'slip'], [])], [(0, ['told', 'told'], ['haste']), (1, ['slip', 'slip'], [])]]
>>> tell = ("tell", ("a",), 0, (("value", 5), ()))
>>> more = wider_run(roster, late, 1, tell)
>>> wider_run(roster, heard, 1, tell), more[-1][0][0], more[-1][0][2] == tell, is_stale(more, len(more) - 1)
(None, (1, 0, 4), True, True)
>>> wider_run(roster, given, 0, ("put", (), "b", ("value", 5)))
None
>>> wider_run(roster, given, 0, ("put", (), "a", ("value", 5)))
raises Refused(('value', 5))
>>> wider_run(roster, given, 1, ("put", (), "b", None))
raises Refused(((), 'b'))
>>> wider_run(roster, given, 1, ("tick",))
raises Refused(('tick',))
"""

CHAPTER_25 = r"""
>>> from goodtill.desk import Desk
>>> desk = Desk()
>>> [desk.say(line) for line in ("roster 1-1 1-2", "start 0.0.0 0 none", "put 0.0.1 0 root a value 5", "start 1.0.0 0 none", "send 1.0.1 0 0")]
['0 events, 0 laid', '1 events, 0 laid', '2 events, 0 laid', '3 events, 0 laid', '4 events, 0 laid']
>>> [desk.say(line) for line in ("hear 0.0.2 0 1.0.1", "give 0.0.3 0 root a 10 1", "send 0.0.4 0 1", "hear 1.0.2 2 0.0.4")]
['5 events, 0 laid', '6 events, 0 laid', '7 events, 0 laid', '8 events, 0 laid']
>>> [desk.say(line) for line in ("told 1 a 0", "good 1 a 0", "left 1 0.0.3", "told 1 b.c 0", "why 0 root a", "pocket 1")]
['told value 5', '3', '3', 'not root b', 'own', '. label a value 5 3']
>>> [desk.say(line) for line in ("may 0 root a", "wait 0 root a", "alive 0 0.0.3", "way 1.0.2 0.0.4", "may 1 root a", "content root b")]
['not 0.0.3', '10', 'own 1.0.1', '-4', 'refused', 'root none']
>>> [desk.say(line) for line in ("haste 0 root a none", "judge haste 0 root a none", "judge haste 0 root a value 6", "check")]
['laid', 'yes', 'no', 'run']
>>> [desk.say(line) for line in ("undo", "undo", "told 1 a 0", "tick 1.0.2 5/2", "event 7", "hear 0.0.5 1 1.0.2", "slip 0 a 0 value 5")]
['8 events, 0 laid', '7 events, 0 laid', 'not root a', '8 events, 0 laid', 'tick 1.0.2 5/2', 'refused', 'refused']
>>> [desk.say(line) for line in ("lay -7/2 put 9.2.0 0 root q page 3 a value 1 b name x.y", "show 0", "check", "harm", "clear")]
['8 events, 1 laid', 'lay -7/2 put 9.2.0 0 root q page 3 a value 1 b name x.y', '0', 'refused', '8 events, 0 laid']
>>> desk.say("told 1 a 9")
raises BadText(3)
>>> desk.say("give 0.0.5 0 root a")
raises BadText(5)
>>> desk.say("put 0.0.5 0 root a page 3 b value 1 a value 2")
raises BadText(10)
"""


class Examples(unittest.TestCase):
    def test_chapter_3(self):
        self.assertEqual(run_examples(self, CHAPTER_3), 12)

    def test_chapter_4(self):
        self.assertEqual(run_examples(self, CHAPTER_4), 9)

    def test_chapter_5(self):
        self.assertEqual(run_examples(self, CHAPTER_5), 13)

    def test_chapter_6(self):
        self.assertEqual(run_examples(self, CHAPTER_6), 5)

    def test_chapter_7(self):
        self.assertEqual(run_examples(self, CHAPTER_7), 11)

    def test_chapter_8(self):
        self.assertEqual(run_examples(self, CHAPTER_8), 15)

    def test_chapter_9(self):
        self.assertEqual(run_examples(self, CHAPTER_9), 16)

    def test_chapter_10(self):
        self.assertEqual(run_examples(self, CHAPTER_10), 19)

    def test_chapters_11_and_12(self):
        self.assertEqual(run_examples(self, CHAPTERS_11_AND_12), 19)

    def test_chapter_13(self):
        self.assertEqual(run_examples(self, CHAPTER_13), 15)

    def test_chapter_14(self):
        self.assertEqual(run_examples(self, CHAPTER_14), 11)

    def test_chapter_15(self):
        self.assertEqual(run_examples(self, CHAPTER_15), 15)

    def test_chapter_16(self):
        self.assertEqual(run_examples(self, CHAPTER_16), 15)

    def test_chapter_17(self):
        self.assertEqual(run_examples(self, CHAPTER_17), 15)

    def test_chapter_18(self):
        self.assertEqual(run_examples(self, CHAPTER_18), 14)

    def test_chapter_19(self):
        self.assertEqual(run_examples(self, CHAPTER_19), 10)

    def test_chapter_20(self):
        self.assertEqual(run_examples(self, CHAPTER_20), 18)

    def test_chapter_21_journals(self):
        self.assertEqual(run_examples(self, CHAPTER_21_JOURNALS), 7)

    def test_chapter_21_stops(self):
        self.assertEqual(run_examples(self, CHAPTER_21_STOPS), 12)

    def test_chapter_22(self):
        self.assertEqual(run_examples(self, CHAPTER_22), 11)

    def test_chapter_23(self):
        self.assertEqual(run_examples(self, CHAPTER_23), 8)

    def test_chapter_24(self):
        self.assertEqual(run_examples(self, CHAPTER_24), 16)

    def test_chapter_25(self):
        self.assertEqual(run_examples(self, CHAPTER_25), 12)


if __name__ == "__main__":
    unittest.main()
