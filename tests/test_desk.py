"""Points 93 to 96: lines, changes and questions of a desk."""

import random
import unittest

from goodtill.desk import Desk
from goodtill.errors import Refused
from goodtill.finders import good_ticks, may_tell, why_certain
from goodtill.forms import is_page_put
from goodtill.hastejudge import haste_serves
from goodtill.houses import may_put, own_end, put_wait, why_alive
from goodtill.pages import content_of, keeper_of
from goodtill.pocket import pocket_of
from goodtill.promises import does_stand, has_sworn, holders_of, is_past, span_of, ticks_left
from goodtill.recall import fewest_swears
from goodtill.runs import is_stale, walk_truth
from goodtill.slipjudge import slip_serves
from goodtill.stops import harm_of, needed_flush, stop_serves
from goodtill.tree import walk_view
from goodtill.views import common_view, view_of
from goodtill.webs import ways_from
from tests import slow_lines
from tests.some_events import event as some_event_of_any_form
from tests.some_houses import Play, some_clocks, some_late_sight
from tests.some_rows import in_some_order
from tests.told import ANYTHING, told

EXAMPLE = ("roster 1-1 1-2", "start 0.0.0 0 none", "put 0.0.1 0 root a value 5", "start 1.0.0 0 none", "send 1.0.1 0 0", "hear 0.0.2 0 1.0.1",
           "give 0.0.3 0 root a 10 1", "send 0.0.4 0 1", "hear 1.0.2 2 0.0.4")


def desk_with(lines):
    desk = Desk()
    for line in lines:
        desk.say(line)
    return desk


def held(desk):
    """All that a desk holds, and how many changes there were."""
    return (desk._held.roster, desk._held.events, desk._held.run, len(desk._elder))


class Lines(unittest.TestCase):
    def bad(self, desk, line, at):
        before = held(desk)
        self.assertEqual(told(desk.say, line), ("BadText", at), line)
        self.assertEqual(held(desk), before)

    def test_values_that_are_no_lines(self):
        desk = desk_with(EXAMPLE)
        for value in ANYTHING:
            if not isinstance(value, str):
                self.bad(desk, value, -1)
        self.bad(desk, ("check",), -1)
        self.bad(desk, ["check"], -1)

    def test_lines_of_999_to_1001_signs(self):
        desk = Desk()
        desk.say("start 0.0.0 0 none")
        for many in (999, 1000, 1001):
            figures = "9" * (many - len("put 0.0.1 0 root a value "))
            line = "put 0.0.1 0 root a value " + figures
            self.assertEqual(len(line), many)
            if many < 1001:
                self.assertEqual(desk.say(line), "2 events, 0 laid")
                self.assertEqual(desk.say("event 1"), line)
                self.assertEqual(desk.say("content root a"), f"0.0.1 value {figures}")
                desk.say("undo")
            else:
                self.bad(desk, line, -1)
            self.bad(desk, " " * many, 0 if many < 1001 else -1)
            self.bad(desk, "x" * many, 0 if many < 1001 else -1)

    def test_kinds(self):
        desk = desk_with(EXAMPLE)
        for line in ("", " ", "Check", "check2", "tock 0.0.1 0", "lay2", "judged slip", "hears", "sends 1", " check", "none", "root", "0", "checks", "\tcheck",
                     "check\n", "events 0", "puts", "refused"):
            self.bad(desk, line, 0)
        for line, at in (("check ", 1), ("check  ", 1), ("clear x", 1), ("undo x", 1), ("harm 0", 1), ("judge", 1), ("judge check", 1), ("judge ", 1),
                         ("lay", 1), ("lay 1", 2), ("lay 1 lay 1 tick 0.0.0 0", 2), ("lay 1 check", 2), ("lay 2/2 tick 0.0.0 0", 1), ("lay 1 tick 0.0.0", 4)):
            self.bad(desk, line, at)

    # Lines that are well formed, of each kind.
    FORMS = (
        "start 0.0.0 0 none", "start 0.1.0 -7/2 0.0.9", "tick 31.0.12 5", "send 0.0.5 0 1", "hear 0.0.5 1 1.0.2", "put 0.0.5 0 root b none",
        "put 0.0.5 0 0.0.1 b value 0", "put 0.0.5 0 root b name x.y.z", "put 0.0.5 0 root b page 3", "put 0.0.5 0 root b page 3 a value 1 bb name q",
        "give 0.0.5 0 root b 7/3 1", "pass 0.0.5 0 0.0.3 4", "swear 0.0.5 0 0.0.3", "hand 0.0.5 0 root 31", "tell 0.0.5 0 a.b 8 value 5",
        "tell 0.0.5 0 a 0 page 3 root", "tell 0.0.5 0 a 0 page 3 1.0.1 a.b c", "tell 0.0.5 0 a 0 nothing", "tell 0.0.5 0 a 0 long a b.c", "tell 0.0.5 0 a 0 far a",
        "ask 0.0.5 0 a.b.c.d.e.f 0", "lay 3/4 ask 0.0.5 0 a 0", "lay -1 put 0.0.1 0 root b page 3 a value 1", "clear", "slip 0 a 0 value 5", "haste 0 root a none",
        "haste 0 0.0.1 a page 1 b value 3", "stop 0 none send 1", "stop 0 0.0.3 tell a 0 nothing", "event 0", "show 0", "view 0", "common 0", "way 0.0.0 1.0.0",
        "keeper root", "content root a", "walk 0 a 0", "span 0.0.3", "holders 0.0.3", "sworn 0.0.3 1", "stands 0 0.0.3", "past 0 0.0.3", "left 0 0.0.3",
        "alive 0 0.0.3", "why 0 root a", "told 0 a 0", "good 0 a 0", "pocket 0", "may 0 root a", "wait 0 root a", "end 0 root a", "fewest 0 root a",
        "needed 0 none send 1", "check", "stale 0", "truth 0 a 0", "harm", "judge slip 0 a 0 value 5", "judge haste 0 root a none", "judge stop 0 none send 1",
        "roster", "roster 1-1", "roster 1-1000 3-3",
    )

    def test_lines_that_are_well_formed(self):
        for line in self.FORMS:
            self.assertIsInstance(desk_with(EXAMPLE).say(line), str, line)

    def test_a_word_too_few(self):
        """All the words but the last ones: the number of words, unless a shorter line is one, too."""
        desk = desk_with(EXAMPLE)
        for line in self.FORMS:
            words = line.split(" ")
            for many in range(1, len(words)):
                if not self.may_end(words[:many]):
                    self.bad(desk, " ".join(words[:many]), many)

    def may_end(self, words):
        """Whether a beginning of one of the lines is a line itself."""
        line = " ".join(words)
        short = ("roster", "page 3", "page 1", "long", "long a", "far", "page 3 root", "page 3 1.0.1", "page 3 1.0.1 a.b", "page 3 a value 1")
        return words[0] == "roster" or (len(words) > 4 and any(line.endswith(" " + end) for end in short[1:]))

    def test_a_word_too_many(self):
        desk = desk_with(EXAMPLE)
        for line in self.FORMS:
            at = len(line.split(" "))
            for more in ("", "!", "0x", "A"):
                self.bad(desk, line + " " + more, at)

    def test_a_word_left_empty_or_spoilt(self):
        desk = desk_with(EXAMPLE)
        for line in self.FORMS:
            words = line.split(" ")
            for at in range(len(words)):
                for wrong in ("", "!", "A", "1.", ".", "-", "x0", "00"):
                    self.bad(desk, " ".join(words[:at] + [wrong] + words[at + 1:]), at)

    def test_the_parts_of_lines(self):
        desk = desk_with(EXAMPLE)
        labels = ("A", "a1", "abcdefghi", "-", "a.b", "a\u00e9")
        whole = ("-1", "+1", "01", "1.0", "1/1", "a", "\u0661", "1_0", "0x1")
        ids = ("0.0", "0.0.0.0", "32.0.0", "0.00.0", "0.0.-1", "0..0", "root", "0.0.a", ".0.0", "0,0,0")
        fractions = ("1/1", "2/4", "0/2", "-0", "1/", "/2", "+1", "1.5", "01", "1/02", "--1", "1/-2", "")
        for line, at, wrongs in (
                ("view W", 1, whole + ("32", "100")), ("told 0 a W", 3, whole + ("9", "10")), ("event W", 1, whole), ("span W", 1, ids),
                ("keeper W", 1, ids[:6] + ("none", "Root")), ("content root W", 2, labels), ("told 0 W 0", 2, ("a..b", ".a", "a.", "a.b.c.d.e.f.g") + labels[:3]),
                ("tick 0.0.0 W", 2, fractions), ("start 0.0.0 0 W", 3, ids[:6] + ("nothing", "null", "root")), ("put 0.0.1 0 root a value W", 6, whole),
                ("needed 0 W send 1", 2, ids), ("needed 0 none W", 3, ("sent", "hear", "put", "ask", "")), ("haste 0 root a W", 4, ("nothing", "far", "0", "pages")),
                ("slip 0 a 0 W", 4, ("none", "name", "0", "told")), ("roster W", 1, ("0-1", "2-1", "1-1001", "1", "1-", "-1", "1-1-1", "01-1", "1-01", "a-b", "1--1")),
                ("judge W 0 a 0 value 5", 1, ("tell", "slips", "")), ("lay 0 W", 2, ("undo", "clear", "lay"))):
            for wrong in wrongs:
                self.bad(desk, line.replace("W", wrong), at)

    def test_the_edges_of_parts(self):
        desk = desk_with(EXAMPLE)
        for line in ("view 31", "told 31 a 8", "span 31.99.99", "event 99999", "told 0 aaaaaaaa.b.c.d.e.f 0", "roster 1000-1000", "tick 0.0.9 -1/2",
                     "roster " + " ".join(["1-2"] * 32), "put 0.0.9 0 root a page 31 a value 0 b name x c value 1 d value 1 e value 1 f value 1",
                     "slip 0 a 0 far " + " ".join(["a.b"] * 9)):
            self.assertIsInstance(desk_with(EXAMPLE).say(line), str)
        self.bad(desk, "roster " + " ".join(["1-2"] * 33), 33)
        self.bad(desk, "slip 0 a 0 far " + " ".join(["a"] * 10), 14)
        six = "put 0.0.9 0 root a page 3 " + " ".join(f"{label} value 1" for label in "abcdef")
        self.bad(desk, six + " g value 1", 25)
        self.bad(desk, six.replace("c value", "b value"), 13)
        self.bad(desk, six.replace("c value", "a value"), 13)
        self.bad(desk, six.replace("c value", "c page"), 14)
        self.bad(desk, six.replace("c value", "c none"), 14)
        self.bad(desk, six[:-2], 24)

    def test_the_first_word_at_fault(self):
        desk = desk_with(EXAMPLE)
        for line, at in (("told 99 A 9", 1), ("told 1 A 9", 2), ("told 1 a 9 x", 3), ("told 1 a 0 x y", 4), ("give 0.0.5 x root A", 2), ("give 0.0.5 0 root", 4),
                         ("judge x y", 1), ("put 0.0.5 0 root a page 32 A", 6), ("tell 0.0.5 0 a 0 value x y", 6)):
            self.bad(desk, line, at)


class Changes(unittest.TestCase):
    def test_rosters(self):
        desk = desk_with(EXAMPLE + ("lay 0 tick 0.0.0 0",))
        self.assertEqual(desk.say("roster 2-3"), "0 events, 0 laid")
        self.assertEqual(held(desk)[:3], (((2, 3),), (), ()))
        self.assertEqual(desk.say("roster"), "0 events, 0 laid")
        self.assertEqual(held(desk)[0], ())

    def test_events_that_are_no_view_or_have_no_fit(self):
        desk = desk_with(EXAMPLE)
        before = held(desk)
        for line in ("tick 0.0.9 5", "tick 0.0.4 5", "hear 0.0.5 1 1.0.2", "send 0.0.5 5 0", "put 1.0.3 2 root b none", "put 0.0.5 0 root a value 5",
                     "tick 0.0.5 -1", "start 1.1.0 2 0.0.0", "swear 0.0.5 0 0.0.4"):
            self.assertEqual(desk.say(line), "refused", line)
            self.assertEqual(held(desk), before)
        for reading, answer in (("0", "refused"), ("5/2", "refused"), ("3", "11 events, 0 laid")):
            desk = desk_with(EXAMPLE[:1] + ("start 0.0.0 0 none", "send 0.0.1 0 1", "start 1.0.0 0 none", "hear 1.0.1 0 0.0.1", "tick 1.0.2 3", "send 1.0.3 3 0"))
            desk.say(f"tick 0.0.2 {reading}")
            self.assertEqual(desk.say(f"hear 0.0.3 {reading} 1.0.3"), "refused" if answer == "refused" else "8 events, 0 laid")

    def test_laying_and_clearing(self):
        desk = Desk()
        self.assertEqual(desk.say("lay 5 tell 3.2.1 -1/2 a.b 8 page 3 1.0.1 x y.z"), "0 events, 1 laid")
        self.assertEqual(desk.say("lay -7/2 start 3.2.0 0 none"), "0 events, 2 laid")
        self.assertEqual(desk.say("lay -7/2 start 3.2.0 0 none"), "0 events, 3 laid")
        self.assertEqual(held(desk)[2][0], (((3, 2, 1), (-1, 2), ("tell", ("a", "b"), 8, (("page", 3, (1, 0, 1)), (("x",), ("y", "z"))))), (5, 1)))
        self.assertEqual(desk.say("show 0"), "lay 5 tell 3.2.1 -1/2 a.b 8 page 3 1.0.1 x y.z")
        self.assertEqual(desk.say("clear"), "0 events, 0 laid")
        self.assertEqual(desk.say("clear"), "0 events, 0 laid")
        self.assertEqual(desk.say("undo"), "0 events, 0 laid")
        self.assertEqual(desk.say("undo"), "0 events, 3 laid")

    def test_undo(self):
        desk = Desk()
        self.assertEqual(told(desk.say, "undo"), ("BadText", 0))
        self.assertEqual(told(desk.say, "undo x"), ("BadText", 0))
        lines = EXAMPLE + ("lay 0 tick 0.0.0 0", "haste 0 root a none", "clear", "roster", "lay 1 tick 0.0.0 0", "slip 4 a 0 far", "roster 1-1 1-2")
        stood = []
        for line in lines:
            before = held(desk)
            if desk.say(line) != "refused":
                stood.append(before)
                desk.say("check")
                told(desk.say, "nonsense")
        self.assertEqual(len(stood), len(lines) - 1)
        self.assertEqual(told(desk.say, "undo x"), ("BadText", 1))
        for before in stood[::-1]:
            self.assertEqual(desk.say("undo"), f"{len(before[1])} events, {len(before[2])} laid")
            self.assertEqual(held(desk), before)
        self.assertEqual(told(desk.say, "undo"), ("BadText", 0))
        for line in EXAMPLE:
            desk.say(line)
        self.assertEqual(desk.say("told 1 a 0"), "told value 5")

    def test_runs_that_show_something(self):
        desk = desk_with(EXAMPLE)
        for line in ("slip 1 a 0 value 5", "slip 7 a 0 value 5", "haste 0 root b none", "haste 1 root a none", "haste 0 root a value 5", "haste 0 0.0.9 a none",
                     "stop 0 0.0.9 send 1", "stop 0 0.0.3 send 1", "stop 0 none send 0", "stop 7 none send 1"):
            before = held(desk)
            self.assertEqual(desk.say(line), "refused", line)
            self.assertEqual(held(desk), before)
        for line in ("slip 1 a 0 nothing", "slip 1 b 0 nothing", "slip 0 a 3 value 6 a.b", "haste 0 root a none", "haste 0 root a page 4 b value 1",
                     "haste 0 root a name b", "stop 0 none send 1", "stop 0 0.0.2 send 31", "stop 0 none tell a 0 value 5"):
            self.assertEqual(desk.say(line), "laid")
            self.assertEqual((desk.say("judge " + line), desk.say("check")), ("yes", "run"))
            self.assertEqual(desk.say("event 0"), "start 0.0.0 0 none")
            desk.say("tick 1.0.3 2")
            self.assertEqual(desk.say("judge " + line), "no" if line[:6] == "slip 1" else "yes")
            desk.say("undo")
            self.assertEqual(desk.say("judge " + line), "yes")
            desk.say("clear")
            self.assertEqual(desk.say("judge " + line), "no")

    def test_two_desks_side_by_side(self):
        one, two = Desk(), Desk()
        one.say("start 0.0.0 0 none")
        self.assertEqual(two.say("clear"), "0 events, 0 laid")
        self.assertEqual(told(two.say, "undo")[0], "gives")
        self.assertEqual(told(two.say, "undo"), ("BadText", 0))
        self.assertEqual(one.say("clear"), "1 events, 0 laid")


def or_refused(function):
    try:
        return function()
    except Refused:
        return "refused"


def ids(events):
    return " ".join(slow_lines.term(event[0]) for event in events) or "none"


def number(one):
    return "none" if one is None else slow_lines.fraction(one)


def ticks(one):
    return "ever" if one is None else slow_lines.fraction(one)


def yes(holds):
    return "yes" if holds else "no"


def ends(span):
    return " ".join("-" if one is None else one for one in span)


def pocket(rows):
    parts = []
    for labels, span, entry, good in rows:
        parts.append(f"{'.'.join(labels) or '.'} {ends(span)} {slow_lines.entry(entry)} {ticks(good)}")
    return "; ".join(parts) or "none"


def told_words(told_now):
    return "told " + slow_lines.answer(told_now[1]) if told_now[0] == "told" else f"not {slow_lines.term(told_now[1])} {told_now[2]}"


def may_words(may):
    if may[0] == "not":
        return " ".join(["not"] + [slow_lines.term(give) for give in may[1]])
    return "let broken" if may[1] == "broken" else f"let {slow_lines.term(may[1][0])} {may[1][1]}"


def why_words(why):
    return "none" if why is None else " ".join([why[0]] + [slow_lines.term(one) for one in why[1:]])


class Questions(unittest.TestCase):
    def asked(self, desk, line, function):
        before = held(desk)
        self.assertEqual(desk.say(line), or_refused(function), line)
        self.assertEqual(held(desk), before)

    def of_row(self, desk, roster, row, one, two):
        x, y = slow_lines.term(one), slow_lines.term(two)

        def way():
            found = dict(zip([event[0] for event in row], ways_from(roster, row, one)))
            if two not in found:
                raise Refused(two)
            return number(found[two])

        self.asked(desk, f"way {x} {y}", way)
        self.asked(desk, f"span {x}", lambda: ends(span_of(row, one)))
        self.asked(desk, f"holders {x}", lambda: " ".join(map(str, holders_of(row, one))))

        def keeper():
            keeper_row, node = keeper_of(row, one)
            return f"{slow_lines.term(keeper_row)} {node}"

        self.asked(desk, f"keeper {x}", keeper)

    def of_place(self, desk, roster, row, node, term, label):
        words = f"{slow_lines.term(term)} {label}"

        def content():
            put, entry = content_of(row, term, label)
            return f"{slow_lines.term(put)} {slow_lines.entry(entry)}"

        self.asked(desk, f"content {words}", content)
        self.asked(desk, f"why {node} {words}", lambda: why_words(why_certain(roster, row, node, term, label)))
        self.asked(desk, f"may {node} {words}", lambda: may_words(may_put(roster, row, node, term, label)))
        self.asked(desk, f"wait {node} {words}", lambda: number(put_wait(roster, row, node, term, label)))
        self.asked(desk, f"end {node} {words}", lambda: number(own_end(row, node, term, label)))
        self.asked(desk, f"fewest {node} {words}", lambda: str(fewest_swears(roster, row, node, term, label)))

    def of_node(self, desk, roster, row, node, give):
        at = slow_lines.term(give)
        self.asked(desk, f"view {node}", lambda: ids(view_of(row, node)))
        self.asked(desk, f"common {node}", lambda: ids(common_view(row, node)))
        self.asked(desk, f"sworn {at} {node}", lambda: yes(has_sworn(row, give, node)))
        self.asked(desk, f"stands {node} {at}", lambda: yes(does_stand(roster, row, node, give)))
        self.asked(desk, f"past {node} {at}", lambda: yes(is_past(roster, row, node, give)))
        self.asked(desk, f"left {node} {at}", lambda: number(ticks_left(roster, row, node, give)))
        self.asked(desk, f"alive {node} {at}", lambda: why_words(why_alive(roster, row, node, give)))
        self.asked(desk, f"pocket {node}", lambda: pocket(pocket_of(roster, row, node)))

    def of_name(self, desk, roster, row, node, name, most):
        words = f"{node} {'.'.join(name)} {most}"
        self.asked(desk, f"walk {words}", lambda: slow_lines.answer(walk_view(view_of(row, node), name, most)[0]))
        self.asked(desk, f"told {words}", lambda: told_words(may_tell(roster, row, node, name, most)))
        self.asked(desk, f"good {words}", lambda: ticks(good_ticks(roster, row, node, name, most)))

    def showing(self, desk, roster, row, node, dice):
        name = (dice.choice("abc"),)
        answer = dice.choice((walk_view(view_of(row, node), name, 1)[0], (("value", 7), (("a", "b"),))))
        term = dice.choice([()] + [event[0] for event in row if is_page_put(event)])
        entry = dice.choice((None, ("value", 1), ("page", 2, (("a", ("value", 1)),))))
        flushed = dice.choice([None] + [event[0] for event in row if event[0][0] == node])
        deed = dice.choice((("send", dice.randrange(5)), ("tell", name, 1, answer)))
        slip = f"slip {node} {name[0]} 1 {slow_lines.answer(answer)}"
        haste = f"haste {node} {slow_lines.term(term)} b {slow_lines.entry(entry)}"
        stop = f"stop {node} {slow_lines.term(flushed) if flushed else 'none'} {slow_lines.deed(deed)}"
        needed = stop.replace("stop", "needed", 1)

        def needed_words():
            found = needed_flush(roster, row, node, flushed, deed)
            return "none" if found is None else slow_lines.term(found)

        self.asked(desk, needed, needed_words)
        laid = 0
        for line in (slip, haste, stop):
            if desk.say(line) == "laid":
                laid += 1
                self.assertEqual(desk.say(f"judge {line}"), "yes")
                self.assertEqual(desk.say("check"), "run")
            run = held(desk)[2]
            self.asked(desk, f"judge {slip}", lambda: yes(slip_serves(roster, row, node, name, 1, answer, run)))
            self.asked(desk, f"judge {haste}", lambda: yes(haste_serves(roster, row, node, term, "b", entry, run)))
            self.asked(desk, f"judge {stop}", lambda: yes(stop_serves(roster, row, node, flushed, deed, run)))
            self.of_run(desk, run)
        return laid

    def of_run(self, desk, run):
        for place in (0, len(run) - 1, len(run), len(run) + 1):
            if place >= 0:
                self.asked(desk, f"stale {place}", lambda: yes(is_stale(run, place)))
                self.asked(desk, f"truth {place} a.b 1",
                           lambda: "refused" if place > len(run) else slow_lines.answer(walk_truth(run, place, ("a", "b"), 1)))

        def harm():
            found = harm_of(run)
            return "none" if found is None else f"{found[0]} {found[1]}"

        self.asked(desk, "harm", harm)

    def test_drawn_rows(self):
        laid = 0
        for seed in range(60):
            dice = random.Random(71000 + seed)
            roster, row = some_late_sight(dice, dice.randint(0, 24), dice.randint(2, 4), dice.choice((0, 0.05)))
            order = in_some_order(dice, row)
            desk = Desk()
            self.assertEqual(desk.say(slow_lines.roster(roster)), "0 events, 0 laid")
            for many, event in enumerate(order, start=1):
                self.assertEqual(desk.say(slow_lines.line(event)), f"{many} events, 0 laid")
            for at, event in enumerate(order):
                self.assertEqual(desk.say(f"event {at}"), slow_lines.line(event))
            self.assertEqual(desk.say(f"event {len(order)}"), "refused")
            self.assertEqual(held(desk)[:2], (roster, order))
            row, known = order, [event[0] for event in order] + [(9, 9, 9)]
            gives = [event[0] for event in row if event[2][0] == "give"] + [dice.choice(known)]
            terms = [(), dice.choice(known)] + [event[0] for event in row if is_page_put(event)][:3]
            for _ in range(3):
                self.of_row(desk, roster, row, dice.choice(known), dice.choice(known))
            for give in gives[:4]:
                self.of_row(desk, roster, row, give, dice.choice(known))
            for node in range(5):
                self.of_node(desk, roster, row, node, dice.choice(gives))
                for term in terms:
                    self.of_place(desk, roster, row, node, term, dice.choice(("a", "b", "c")))
                self.of_name(desk, roster, row, node, tuple(dice.choice("abc") for _ in range(dice.randint(1, 2))), dice.randint(0, 2))
                laid += self.showing(desk, roster, row, node, dice)
        self.assertGreater(laid, 100)

    def test_runs_that_are_none(self):
        desk = desk_with(("lay 0 start 0.0.0 0 none", "lay 1 tell 0.0.1 1 a 0 nothing", "lay 1 tick 0.0.3 1", "lay 1 tick 0.0.2 1"))
        self.assertEqual(desk.say("check"), "2")
        for line in ("stale 1", "truth 0 a 0", "harm", "truth 9 a 0", "stale 7"):
            self.assertEqual(desk.say(line), "refused")
        self.assertEqual([desk.say(line) for line in ("show 3", "show 4", "event 0")], ["lay 1 tick 0.0.2 1", "refused", "refused"])
        desk.say("undo")
        desk.say("undo")
        self.assertEqual([desk.say(line) for line in ("check", "stale 1", "truth 2 a 0", "truth 3 a 0", "harm", "stale 0")], ["run", "no", "nothing", "refused", "none", "refused"])
        desk.say("lay 1 tell 0.0.2 1 a 0 value 3")
        self.assertEqual(desk.say("harm"), "stale 2")

    def test_events_of_all_forms_are_shown_as_they_were_laid(self):
        for seed in range(300):
            dice = random.Random(72000 + seed)
            event = some_event_of_any_form(dice)
            line = f"lay {slow_lines.fraction(event[1])} {slow_lines.line(event)}"
            if len(line) > 1000:
                continue
            desk = Desk()
            self.assertEqual(desk.say(line), "0 events, 1 laid")
            self.assertEqual(desk.say("show 0"), line)
            self.assertEqual(held(desk)[2], ((event, event[1]),))

    def test_harms_of_laid_runs(self):
        for seed in range(20):
            dice = random.Random(73000 + seed)
            roster = some_clocks(dice, 3)
            run = Play(dice, roster, 3, 0.1, losses=True).grow(25)
            desk = Desk()
            desk.say(slow_lines.roster(roster))
            for event, instant in run:
                desk.say(f"lay {slow_lines.fraction(instant)} {slow_lines.line(event)}")
            self.assertEqual(held(desk)[2], run)
            self.assertEqual(desk.say("check"), "run")
            self.of_run(desk, run)

    def test_nodes_without_an_event(self):
        desk = desk_with(EXAMPLE)
        for line in ("common 7", "stands 7 0.0.3", "past 7 0.0.3", "left 7 0.0.3", "alive 7 0.0.3", "why 7 root a", "told 7 a 0", "good 7 a 0", "pocket 7",
                     "may 7 root a", "wait 7 root a", "end 7 root a", "fewest 7 root a", "needed 7 none send 1"):
            self.assertEqual(desk.say(line), "refused", line)
        for line, answer in (("view 7", "none"), ("walk 7 a 0", "nothing"), ("sworn 0.0.3 7", "no"), ("judge slip 7 a 0 nothing", "no")):
            self.assertEqual(desk.say(line), answer)


if __name__ == "__main__":
    unittest.main()
