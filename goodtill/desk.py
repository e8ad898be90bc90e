"""A desk: a roster, a row of events and a run, told and asked line by line."""

from goodtill.errors import BadText, Refused
from goodtill.events import is_bounds
from goodtill.forms import KINDS
from goodtill.hastes import haste_run
from goodtill.questions import answer_to, judgement_of, parts_of_question, parts_of_showing
from goodtill.slips import slip_run
from goodtill.stops import stop_run
from goodtill.views import is_view
from goodtill.webs import positive_ring
from goodtill.words import Line, take_event, take_laid, take_parts, whole_of

LONGEST_LINE = 1000
ROSTER_PAIRS = 32
REFUSED = "refused"


class Held:
    """What a desk holds."""

    def __init__(self, roster, events, run):
        self.roster = roster
        self.events = events
        self.run = run


def take_roster(line):
    """A roster, up to the end of the line."""
    pairs = []
    while line.has_more():
        pair = tuple([whole_of(part) for part in line.take().split("-")])
        line.need(len(pairs) < ROSTER_PAIRS and is_bounds(pair))
        pairs.append(pair)
    return tuple(pairs)


def shown_run(held, kind, parts):
    """A run that shows something of the row of a desk."""
    if kind == "slip":
        node, name, most, answer = parts
        return slip_run(held.roster, held.events, node, name, most, answer)
    if kind == "haste":
        node, term, label, entry = parts
        return haste_run(held.roster, held.events, node, term, label, entry)
    node, flushed, deed = parts
    return stop_run(held.roster, held.events, node, flushed, deed)


class Desk:
    """What is held, and what was held ahead of each change that has not been taken back."""

    def __init__(self):
        self._held = Held((), (), ())
        self._elder = []

    def say(self, line):
        """The answer to a line."""
        if not isinstance(line, str) or len(line) > LONGEST_LINE:
            raise BadText(-1)
        words = Line(line)
        kind = words.take()
        try:
            return self._answer(words, kind)
        except Refused:
            return REFUSED

    def _answer(self, words, kind):
        """The answer to a line of which the first word has been read; raises Refused if it is refused."""
        held, parts = self._held, parts_of_question(kind)
        if parts is not None:
            return answer_to(held, kind, take_parts(words, parts))
        if kind == "judge":
            shown = words.take()
            words.need(parts_of_showing(shown) is not None)
            return judgement_of(held, shown, take_parts(words, parts_of_showing(shown)))
        if parts_of_showing(kind) is not None:
            run = shown_run(held, kind, take_parts(words, parts_of_showing(kind)))
            self._change(Held(held.roster, held.events, run))
            return "laid"
        if kind == "undo":
            words.need(self._elder != [])
            words.close()
            self._held = self._elder.pop()
        else:
            self._change(self._changed(words, kind))
        return f"{len(self._held.events)} events, {len(self._held.run)} laid"

    def _changed(self, words, kind):
        """What is held behind a change of the roster, the row or the run."""
        held = self._held
        if kind == "roster":
            return Held(take_roster(words), (), ())
        if kind == "lay":
            return Held(held.roster, held.events, held.run + (take_laid(words),))
        if kind == "clear":
            words.close()
            return Held(held.roster, held.events, ())
        words.need(kind in KINDS)
        event = take_event(words, kind)
        events = held.events + (event,)
        if not is_view(events) or positive_ring(held.roster, events) is not None:
            raise Refused(event[0])
        return Held(held.roster, events, held.run)

    def _change(self, held):
        """Takes up what is held from now on."""
        self._elder.append(self._held)
        self._held = held
