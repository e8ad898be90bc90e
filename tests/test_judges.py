"""Points 62 and 65: what shows that an answer may not be told, and that a change may not be let."""

import unittest

from goodtill.hastejudge import haste_serves
from goodtill.slipjudge import slip_serves
from tests.build import Rows
from tests.slow_judges import haste_faults, slip_faults
from tests.told import ANYTHING

ROSTER = ((1, 1), (1, 2), (1, 1))
VALUE = ("value", 5)
ANSWER = (VALUE, ())
A = ("a",)


class Slips(unittest.TestCase):
    """Node 1 has a promise of house 0 until its 10; its own clock, perhaps slow, reads 5."""

    def late(self):
        rows = Rows()
        rows.start(0)
        rows.put(0, (), "a", VALUE)
        rows.start(1)
        rows.letter(1, 0)
        rows.give(0, (), "a", 10, 1)
        rows.letter(0, 1)
        rows.do(1, "tick", at=5, now=10)
        return rows

    def taken(self):
        """The run that serves, but its last event."""
        rows = self.late()
        rows.put(0, (), "a", None, at=10)
        return rows

    def last(self, rows, **more):
        return rows.do(1, "tell", more.pop("name", A), more.pop("most", 0), more.pop("answer", ANSWER), **more)

    def judged(self, run, events=None, node=1, name=A, most=0, answer=ANSWER, roster=ROSTER):
        view = self.late().events() if events is None else events
        faults = slip_faults(roster, view, node, name, most, answer, run)
        self.assertIs(slip_serves(roster, view, node, name, most, answer, run), not faults)
        return faults

    def test_one_that_serves(self):
        rows = self.taken()
        self.last(rows)
        self.assertEqual(self.judged(rows.run()), set())
        named = dict(roster=ROSTER, events=self.late().events(), node=1, name=A, most=0, answer=ANSWER, run=rows.run())
        self.assertIs(slip_serves(**named), True)

    def test_more_events_than_the_node_has_seen(self):
        rows = self.taken()
        self.last(rows)
        more = self.taken()
        more.start(4)
        self.assertEqual(self.judged(rows.run(), more.events()), set())

    def test_a_node_without_an_event(self):
        rows = self.taken()
        self.last(rows)
        self.assertEqual(self.judged(rows.run(), node=4), {0})
        self.assertIs(slip_serves(ROSTER, (), 1, A, 0, ANSWER, rows.run()), False)
        self.assertIs(slip_serves(ROSTER, (), 1, A, 0, ANSWER, ()), False)

    def test_any_value_in_the_place_of_a_run(self):
        rows = self.taken()
        self.last(rows)
        run = rows.run()
        others = ANYTHING + (list(run), run[:-1] + (list(run[-1]),), run + (None,), run[:-1] + ((run[-1][0], 10),), run[:-1] + run[-1])
        for value in others:
            self.assertIs(slip_serves(ROSTER, self.late().events(), 1, A, 0, ANSWER, value), False)

    def test_what_is_no_run(self):
        rows = self.taken()
        self.last(rows, now=9)
        self.assertEqual(self.judged(rows.run()), {1})
        rows = self.taken()
        self.last(rows, now=11)
        self.assertEqual(self.judged(rows.run()), {1})
        rows = self.taken()
        self.last(rows)
        self.assertEqual(self.judged(rows.run(), roster=((1, 1), (1, 1), (1, 1))), {1})
        self.assertEqual(self.judged(rows.run()[1:]), {1})
        self.assertEqual(self.judged(()), {1})

    def test_another_last_event(self):
        for more in (dict(name=("b",)), dict(most=1), dict(answer=(("value", 6), ()))):
            rows = self.taken()
            self.last(rows, **more)
            self.assertIn(2, self.judged(rows.run()), more)
            self.assertEqual(self.judged(rows.run(), **more), set(), more)
        rows = self.taken()
        self.last(rows, at=6, now=12)
        self.assertEqual(self.judged(rows.run()), {2})
        rows = self.taken()
        self.last(rows)
        rows.do(1, "tick")
        self.assertIn(2, self.judged(rows.run()))
        rows = self.taken()
        rows.do(1, "ask", A, 0)
        self.assertEqual(self.judged(rows.run()), {2, 5})
        self.assertEqual(self.judged(self.taken().run()), {2, 5})

    def test_another_past(self):
        rows = self.taken()
        rows.do(1, "tick")
        self.last(rows)
        self.assertEqual(self.judged(rows.run()), {2})
        longer = self.late()
        longer.do(1, "tick")
        self.assertEqual(self.judged(rows.run(), longer.events()), set())
        self.assertEqual(self.judged(rows.run(), rows.events()), {2})
        other = [event if event[0] != (1, 0, 3) else ((1, 0, 3), (5, 1), ("ask", A, 0)) for event in longer.row]
        self.assertEqual(self.judged(rows.run(), tuple(other)), {2})
        early = [event if event[0] != (0, 0, 1) else ((0, 0, 1), (0, 1), ("put", (), "a", ("value", 6))) for event in longer.row]
        self.assertEqual(self.judged(rows.run(), tuple(early)), {2})
        rows = self.taken()
        rows.start(7)
        rows.letter(7, 1)
        self.last(rows)
        self.assertEqual(self.judged(rows.run()), {2})

    def test_the_telling_of_another_node(self):
        rows = self.taken()
        rows.start(2)
        rows.do(2, "tell", A, 0, ANSWER)
        self.assertIn(2, self.judged(rows.run()))

    def test_the_order_of_the_row_does_not_count(self):
        rows = self.taken()
        self.last(rows)
        view = self.late().events()
        self.assertEqual(self.judged(rows.run(), view[2:4] + view[:2] + view[4:]), set())

    def test_no_later_life_outside(self):
        rows = self.taken()
        rows.start(4)
        self.last(rows)
        self.assertEqual(self.judged(rows.run()), set())
        rows = self.taken()
        rows.start(4)
        rows.start(4, (4, 0, 0))
        self.last(rows)
        self.assertEqual(self.judged(rows.run()), {3})
        rows = self.taken()
        rows.start(4, life=1)
        self.last(rows)
        self.assertEqual(self.judged(rows.run()), {3})
        rows = self.taken()
        rows.start(0, (0, 0, 4))
        self.last(rows)
        self.assertIn(3, self.judged(rows.run()))

    def two_lives(self, *deeds):
        """Node 2 has ended a life in the view of 1; behind its end, outside, it does some deeds."""
        rows = Rows()
        rows.start(0)
        rows.put(0, (), "a", VALUE)
        rows.start(2)
        rows.do(2, "send", 0)
        for deed in deeds:
            rows.do(2, *deed)
        rows.start(2, (2, 0, 1))
        sent = rows.do(2, "send", 1)
        rows.start(1)
        heard = rows.do(1, "hear", sent)
        kept = [event for event in rows.row if event[0][:2] != (2, 0) or event[0][2] < 2]
        view = tuple(event for event in kept if event[0][0] != 0)
        rows.do(0, "tick")
        rows.do(1, "tell", A, 0, ANSWER)
        self.assertEqual(heard, (1, 0, 1))
        return rows, view

    def test_what_an_ended_life_does_outside(self):
        lone = (("nothing",), ())
        for deeds in ((), (("tick",),), (("ask", A, 0), ("send", 1), ("hear", (0, 0, 2)))):
            rows, view = self.two_lives(*[deed for deed in deeds if deed[0] != "hear"])
            self.assertEqual(self.judged(rows.run(), view), {5})
            self.assertEqual(self.judged(rows.run()[:-1] + (self.told(rows, (("value", 8), ())),), view, answer=(("value", 8), ())), set())
        rows, view = self.two_lives(("tell", ("b",), 0, lone))
        self.assertEqual(self.judged(rows.run(), view) - {5}, {3, 4})

    def told(self, rows, answer):
        event, instant = rows.run()[-1]
        return (event[:2] + (("tell", A, 0, answer),), instant)

    def test_weighty_deeds_and_tellings_of_an_ended_life(self):
        """House 0 has begun a second life by the view of 1; its first life goes on outside, ahead of that."""
        base = Rows()
        base.start(0)
        base.put(0, (), "a", VALUE)
        base.start(2)
        given = base.give(0, (), "c", 10, 2)
        base.letter(0, 2)
        extra = (("put", (), "b", VALUE), ("give", (), "b", (9, 1), 2), ("pass", given, 4), ("swear", given), ("hand", (), 2),
                 ("tell", ("b",), 0, (("nothing",), ())), ("tell", A, 0, ANSWER))
        wrong = (("value", 8), ())
        for deed in extra + (("tick",), ("ask", A, 0), ("send", 2), ("hear", (2, 0, 2))):
            rows = Rows()
            rows.row, rows.instants = list(base.row), list(base.instants)
            if deed[0] == "hear":
                rows.do(2, "send", 0)
            rows.do(0, *deed)
            rows.start(0, (0, 0, 3))
            rows.start(1)
            rows.do(1, "hear", rows.do(0, "send", 1))
            view = tuple(event for event in rows.row if event[0] not in ((0, 0, 4), (2, 0, 2)))
            rows.do(1, "tell", A, 0, wrong)
            self.assertEqual(self.judged(rows.run(), view, answer=wrong), {3} if deed in extra else set(), deed)

    def test_an_ended_life_of_a_node_that_only_holds(self):
        wrong = (("value", 8), ())
        for deed, faults in ((("swear", (0, 0, 2)), {3}), (("pass", (0, 0, 2), 4), {3}), (("tick",), set()), (("tell", A, 0, ANSWER), {3})):
            rows = Rows()
            rows.start(0)
            rows.put(0, (), "a", VALUE)
            rows.give(0, (), "a", 10, 2)
            rows.start(2, at=7)
            rows.do(2, "send", 0)
            rows.do(0, "hear", (2, 0, 1))
            rows.do(2, "hear", rows.do(0, "send", 2))
            outside = rows.do(2, *deed)
            rows.start(2, (2, 0, 2))
            rows.start(3)
            rows.do(3, "hear", rows.do(2, "send", 3))
            view = tuple(event for event in rows.row if event[0] != outside)
            rows.do(3, "tell", A, 0, wrong)
            self.assertEqual(self.judged(rows.run(), view, node=3, answer=wrong) - {4}, faults)

    def test_weighty_deeds_of_nodes_that_the_view_does_not_know(self):
        rows = self.taken()
        given = rows.give(0, (), "c", 99, 6)
        rows.start(6)
        rows.letter(0, 6)
        rows.do(6, "pass", given, 7)
        rows.start(7)
        rows.letter(6, 7)
        rows.do(7, "swear", given)
        self.last(rows)
        self.assertEqual(self.judged(rows.run()), set())

    def test_puts_that_are_not_let(self):
        rows = self.taken()
        rows.put(0, (), "b", VALUE)
        self.last(rows)
        self.assertEqual(self.judged(rows.run()), set())
        rows = self.taken()
        rows.start(2)
        rows.letter(2, 0)
        rows.give(0, (), "c", 99, 2)
        rows.do(0, "send", 2)
        rows.put(0, (), "c", VALUE)
        self.last(rows)
        self.assertEqual(self.judged(rows.run()), {4})
        rows = self.late()
        rows.do(1, "tick", at=5)
        rows.instants[-2:] = [(9, 1), (9, 1)]
        view = rows.events()
        rows.put(0, (), "a", None, at=9)
        self.last(rows)
        self.assertEqual(self.judged(rows.run(), view), {4})

    def test_tellings_that_are_not_told(self):
        for answer, told in ((ANSWER, False), ((("nothing",), ()), True)):
            rows = self.taken()
            rows.do(0, "tell", A, 0, answer)
            self.last(rows)
            self.assertEqual(self.judged(rows.run()), set() if told else {4})
        rows = self.taken()
        rows.start(2)
        rows.do(2, "tell", A, 0, (("nothing",), ()))
        self.last(rows)
        self.assertEqual(self.judged(rows.run()), {4})

    def test_what_the_node_has_seen_may_be_wrong(self):
        rows = Rows()
        rows.start(0)
        rows.put(0, (), "a", VALUE)
        rows.start(1)
        rows.letter(1, 0)
        rows.give(0, (), "a", 10, 1)
        rows.letter(0, 1)
        rows.put(0, (), "a", None)
        rows.do(1, "tell", A, 0, (("far",), ()))
        rows.do(0, "tell", A, 0, ANSWER)
        rows.letter(0, 1)
        view = rows.events()
        rows.do(1, "tell", A, 0, ANSWER)
        self.assertEqual(self.judged(rows.run(), view), set())

    def test_an_answer_that_is_not_stale(self):
        rows = self.late()
        self.last(rows)
        self.assertEqual(self.judged(rows.run()), {5})
        rows = self.taken()
        rows.put(0, (), "a", VALUE)
        self.last(rows)
        self.assertEqual(self.judged(rows.run()), {5})


class Hastes(unittest.TestCase):
    """House 0 has promised until its 10; its clock reads 9; node 1, whose clock is slow, may still tell."""

    def waited(self):
        rows = Rows()
        rows.start(0)
        rows.put(0, (), "a", VALUE)
        rows.start(1)
        rows.letter(1, 0)
        rows.give(0, (), "a", 10, 1)
        rows.do(0, "send", 1)
        rows.do(0, "tick", at=9, now=9)
        return rows

    def taken(self, entry=None):
        rows = self.waited()
        rows.put(0, (), "a", entry)
        rows.do(1, "hear", (0, 0, 4), at=(9, 2))
        return rows

    def judged(self, run, events=None, node=0, term=(), label="a", entry=None, roster=ROSTER):
        view = self.waited().events() if events is None else events
        faults = haste_faults(roster, view, node, term, label, entry, run)
        self.assertIs(haste_serves(roster, view, node, term, label, entry, run), not faults)
        return faults

    def last(self, rows, node=1, name=A, most=0, answer=ANSWER, **more):
        return rows.do(node, "tell", name, most, answer, **more)

    def test_some_that_serve(self):
        for entry in (None, ("value", 6), ("name", ("b",)), ("page", 4, ())):
            rows = self.taken(entry)
            self.last(rows)
            self.assertEqual(self.judged(rows.run(), entry=entry), set())
        rows = self.taken()
        self.last(rows)
        named = dict(roster=ROSTER, events=self.waited().events(), node=0, term=(), label="a", entry=None, run=rows.run())
        self.assertIs(haste_serves(**named), True)

    def test_more_events_and_none(self):
        rows = self.taken()
        self.last(rows)
        more = self.waited()
        more.start(4)
        self.assertEqual(self.judged(rows.run(), more.events()), set())
        self.assertEqual(self.judged(rows.run(), node=4), {0})
        self.assertIs(haste_serves(ROSTER, (), 0, (), "a", None, rows.run()), False)

    def test_any_value_in_the_place_of_a_run(self):
        rows = self.taken()
        self.last(rows)
        run = rows.run()
        for value in ANYTHING + (list(run), run + (None,), run[:-1] + (run[-1][0],), run[:-1] + ((run[-1][0], (18, 2)),)):
            self.assertIs(haste_serves(ROSTER, self.waited().events(), 0, (), "a", None, value), False)

    def test_what_is_no_run(self):
        rows = self.taken()
        self.last(rows, now=8)
        self.assertEqual(self.judged(rows.run()), {1})
        rows = self.taken()
        self.last(rows)
        self.assertEqual(self.judged(rows.run(), roster=((1, 1), (1, 1))), {1})
        self.assertEqual(self.judged(()), {1})

    def test_no_such_put(self):
        rows = self.taken()
        self.last(rows)
        for more in (dict(entry=("value", 6)), dict(label="b"), dict(term=(0, 0, 1)), dict(node=1)):
            self.assertEqual(self.judged(rows.run(), **more), {2})
        rows = self.waited()
        rows.put(0, (), "a", None, at=(19, 2), now=(19, 2))
        rows.do(1, "hear", (0, 0, 4), at=5)
        self.last(rows)
        self.assertEqual(self.judged(rows.run()), {2})
        rows = self.waited()
        rows.do(0, "tick")
        rows.put(0, (), "a", None)
        rows.do(1, "hear", (0, 0, 4), at=(9, 2))
        self.last(rows)
        self.assertEqual(self.judged(rows.run()), {2})
        longer = self.waited()
        longer.do(0, "tick")
        self.assertEqual(self.judged(rows.run(), longer.events()), set())
        self.assertEqual(self.judged(rows.run(), rows.events()), {2})

    def test_what_is_outside(self):
        rows = self.taken()
        rows.start(4)
        rows.start(4, (4, 0, 0))
        self.last(rows)
        self.assertEqual(self.judged(rows.run()), {3})
        rows = self.taken()
        rows.start(2)
        rows.do(2, "tell", A, 0, (("nothing",), ()))
        self.last(rows)
        self.assertEqual(self.judged(rows.run()), {4})
        rows = self.taken()
        rows.put(0, (), "b", VALUE)
        self.last(rows)
        self.assertEqual(self.judged(rows.run()), set())
        rows = self.taken()
        rows.start(2)
        rows.letter(2, 0)
        rows.give(0, (), "c", 99, 2)
        rows.do(0, "send", 2)
        rows.put(0, (), "c", VALUE)
        self.last(rows)
        self.assertEqual(self.judged(rows.run()), {4})

    def test_the_last_telling_is_told(self):
        rows = self.taken()
        self.last(rows, at=5, now=10)
        self.assertEqual(self.judged(rows.run()), {4})
        rows = self.taken()
        self.last(rows, at=(9, 2), now=9, answer=(("value", 9), ()))
        self.assertEqual(self.judged(rows.run()), {4})

    def test_another_last_event(self):
        rows = self.taken()
        self.assertEqual(self.judged(rows.run()), {5, 6})
        rows = self.taken()
        self.last(rows)
        rows.do(1, "tick")
        self.assertEqual(self.judged(rows.run()), {5, 6})
        rows = self.taken()
        self.last(rows, node=0)
        self.assertEqual(self.judged(rows.run()), {4, 6})

    def test_a_telling_that_has_seen_the_put(self):
        rows = self.waited()
        rows.put(0, (), "a", None)
        rows.do(0, "send", 1)
        rows.do(1, "hear", (0, 0, 7), at=(9, 2))
        self.last(rows)
        self.assertIn(6, self.judged(rows.run()))

    def two_places(self):
        """Node 1 has promises of house 0 on a, another name, and on b, to which it leads."""
        rows = Rows()
        rows.start(0)
        rows.put(0, (), "a", ("name", ("b",)))
        rows.put(0, (), "b", VALUE)
        rows.start(1)
        rows.letter(1, 0)
        rows.give(0, (), "a", 10, 1)
        rows.give(0, (), "b", 10, 1)
        rows.do(0, "send", 1)
        rows.do(0, "tick", at=9, now=9)
        return rows, rows.events()

    def test_a_way_that_does_not_lead_by_the_place(self):
        rows, view = self.two_places()
        rows.put(0, (), "a", None)
        rows.do(1, "hear", (0, 0, 6), at=(9, 2))
        self.last(rows, name=("b",))
        self.assertEqual(self.judged(rows.run(), view), {5, 6})
        rows, view = self.two_places()
        rows.put(0, (), "b", None)
        rows.do(1, "hear", (0, 0, 6), at=(9, 2))
        self.last(rows, name=A, most=1, answer=(VALUE, (("b",),)))
        self.assertEqual(self.judged(rows.run(), view, label="b"), set())

    def test_another_put_on_the_way_that_the_teller_misses(self):
        """The page beneath is changed, too: that is let, as its pointer is another one by then."""
        rows = Rows()
        rows.start(0)
        page = rows.put(0, (), "a", ("page", 0, (("b", VALUE), ("c", VALUE))))
        rows.start(1)
        rows.letter(1, 0)
        rows.give(0, (), "a", 10, 1)
        rows.give(0, page, "b", 10, 1)
        rows.do(0, "send", 1)
        rows.do(0, "tick", at=9, now=9)
        view = rows.events()
        for label, faults in (("b", {6}), ("c", set())):
            run = Rows()
            run.row, run.instants = list(rows.row), list(rows.instants)
            run.put(0, (), "a", None)
            run.put(0, page, label, None)
            run.do(1, "hear", (0, 0, 5), at=(9, 2))
            self.last(run, name=("a", "b"))
            self.assertEqual(self.judged(run.run(), view), faults)

    def test_puts_beside_the_way_may_be_missed(self):
        rows = Rows()
        rows.start(0)
        page = rows.put(0, (), "a", ("page", 2, (("b", VALUE),)))
        rows.start(1)
        rows.letter(1, 0)
        rows.give(0, (), "a", 10, 1)
        sent = rows.do(0, "send", 1)
        rows.start(2)
        other = rows.do(0, "send", 2)
        rows.do(0, "tick", at=9, now=9)
        view = rows.events()
        rows.put(0, (), "a", None)
        rows.do(2, "hear", other, at=9)
        rows.do(2, "hear", rows.do(1, "send", 2, at=(9, 2)))
        rows.give(2, page, "b", 20, 1)
        back = rows.do(2, "send", 1)
        rows.put(2, page, "c", VALUE)
        rows.do(1, "hear", sent)
        rows.do(1, "hear", back)
        self.last(rows, name=("a", "b"))
        self.assertEqual(self.judged(rows.run(), view), set())

    def test_a_name_that_the_way_follows(self):
        rows, view = self.two_places()
        rows.put(0, (), "a", None)
        rows.put(0, (), "b", None)
        rows.do(1, "hear", (0, 0, 6), at=(9, 2))
        self.last(rows, name=A, most=1, answer=(VALUE, (("b",),)))
        self.assertEqual(self.judged(rows.run(), view), {4, 6})

    def test_another_page_with_the_same_below(self):
        """The put is not let; but whoever walks on by the elder page comes to the same value as by the new one."""
        rows = Rows()
        rows.start(0)
        page = ("page", 0, (("b", VALUE), ("c", VALUE)))
        term = rows.put(0, (), "a", page)
        rows.start(1)
        rows.letter(1, 0)
        rows.give(0, (), "a", 10, 1)
        rows.give(0, term, "b", 10, 1)
        rows.do(0, "send", 1)
        rows.do(0, "tick", at=9, now=9)
        view = rows.events()
        for entry, faults in ((page, {5}), (("page", 0, (("c", VALUE),)), set())):
            run = Rows()
            run.row, run.instants = list(rows.row), list(rows.instants)
            run.put(0, (), "a", entry)
            run.do(1, "hear", (0, 0, 5), at=(9, 2))
            self.last(run, name=("a", "b"))
            self.assertEqual(self.judged(run.run(), view, entry=entry), faults)

    def test_an_answer_that_is_not_stale(self):
        rows = self.taken(("value", 6))
        rows.instants[-1:] = [(9, 1)]
        self.last(rows, answer=(("value", 6), ()))
        self.assertEqual(self.judged(rows.run(), entry=("value", 6)), {4, 5})
        rows = self.waited()
        rows.put(0, (), "a", ("value", 6))
        rows.put(0, (), "a", VALUE)
        rows.do(1, "hear", (0, 0, 4), at=(9, 2))
        self.last(rows)
        self.assertIn(5, self.judged(rows.run(), entry=("value", 6)))


if __name__ == "__main__":
    unittest.main()
