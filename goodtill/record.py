"""Rows of events that grow, with all that tells which event may come next.

A set of events is kept as a whole number here: the bit k stands for the event at the place k.
"""

from goodtill.forms import is_page_put, is_weighty, steps_back
from goodtill.labels import gap_of


def has_bit(past, place):
    """Whether a past has the event at a place."""
    return (past >> place) & 1 == 1


def put_behind(table, key, place):
    """Puts a place behind the row that a dict has under a key."""
    table.setdefault(key, []).append(place)


class Record:
    """A row of events with their pasts, lines, and the rows that bear on pages and promises."""

    def __init__(self):
        self.events = []
        self.places = {}
        self.pasts = []
        self.lines = {}
        self.starts = {}
        self.weighty = {}
        self.puts = {}
        self.bearing = {}
        self.gives = {}
        self.spans = {}
        self.hands = {}
        self.passes = {}
        self.swears = {}
        self.depths = {(): 0}

    def take(self, event):
        """Puts an event behind the row; that it may come is not asked here."""
        place = len(self.events)
        self.pasts.append(self.past_without(event) | (1 << place))
        self.events.append(event)
        self.places[event[0]] = place
        self.put_on_line(event[0])
        self.note_deed(event, place)

    def past_without(self, event):
        """The past of an event that comes next, without itself."""
        past = 0
        for step in steps_back(event):
            past = past | self.pasts[self.places[step]]
        return past

    def put_on_line(self, event_id):
        """Puts an id among those of its node, which ascend."""
        line = self.lines.setdefault(event_id[0], [])
        at = len(line)
        while at > 0 and line[at - 1] > event_id:
            at -= 1
        line.insert(at, event_id)

    def note_deed(self, event, place):
        """Notes what later events ask of this one."""
        event_id, _, deed = event
        if is_weighty(event):
            put_behind(self.weighty, event_id[0], place)
        if deed[0] == "start":
            put_behind(self.starts, event_id[0], place)
        elif deed[0] == "put":
            put_behind(self.puts, (deed[1], deed[2]), place)
            self.bearing.setdefault(deed[1], {})[deed[2]] = True
            if is_page_put(event):
                self.depths[event_id] = self.depths[deed[1]] + 1
                self.bearing[event_id] = {label: True for label, _ in deed[3][2]}
        elif deed[0] == "give":
            put_behind(self.gives, deed[1], place)
        elif deed[0] == "hand":
            put_behind(self.hands, deed[1], place)
        elif deed[0] == "pass":
            put_behind(self.passes, deed[1], place)
        elif deed[0] == "swear":
            put_behind(self.swears, deed[1], place)

    def has_within(self, event_id, past):
        """Whether the event of an id is in the row and in a past."""
        return event_id in self.places and has_bit(past, self.places[event_id])

    def those_within(self, places, past):
        """The events at those of some places that a past has."""
        return [self.events[place] for place in places if has_bit(past, place)]

    def events_of(self, past):
        """The events of a past, in the order of the row."""
        return [event for place, event in enumerate(self.events) if has_bit(past, place)]

    def neighbours(self, event_id):
        """The events next ahead of and next behind an id on its line, None where there is none."""
        ahead = behind = None
        for other in self.lines.get(event_id[0], []):
            if other < event_id:
                ahead = self.event(other)
            elif other > event_id and behind is None:
                behind = self.event(other)
        return ahead, behind

    def event(self, event_id):
        """The event of an id, which is in the row."""
        return self.events[self.places[event_id]]

    def everything(self):
        """All events of the row, as a past."""
        return (1 << len(self.events)) - 1

    def has_page(self, term, past):
        """Whether a page is there by a past."""
        if term == ():
            return True
        return self.has_within(term, past) and is_page_put(self.event(term))

    def keeper_rows(self, term, past):
        """The keeper rows of a page, which is there, by a past, with the nodes that they name, the eldest first."""
        house = 0 if term == () else self.event(term)[2][3][1]
        hands = self.those_within(self.hands.get(term, []), past)
        return [(term, house)] + [(event[0], event[2][2]) for event in hands]

    def keeper_row(self, term, past):
        """The newest keeper row of a page, which is there, by a past, with the node that it names."""
        return self.keeper_rows(term, past)[-1]

    def content(self, term, label, past):
        """The newest put at a label of a page, which is there, by a past, or else the term, and the entry there."""
        puts = self.those_within(self.puts.get((term, label), []), past)
        if puts:
            return (puts[-1][0], puts[-1][2][3])
        if term != ():
            for first, entry in self.event(term)[2][3][2]:
                if first == label:
                    return (term, entry)
        return (term, None)

    def standing(self, term, past):
        """The labels of a page, which is there, at which an entry stands by a past, with it, ascending."""
        rows = [(label, self.content(term, label, past)[1]) for label in sorted(self.bearing.get(term, {}))]
        return [row for row in rows if row[1] is not None]

    def cover(self, term, label, past):
        """What a promise on a label of a page, which is there, covers if it is given by a past."""
        labels = [first for first, _ in self.standing(term, past)]
        return ("label", label) if label in labels else ("gap",) + gap_of(labels, label)

    def span(self, give):
        """What a promise covers by the past of its giving, which is in the row."""
        if give not in self.spans:
            place = self.places[give]
            _, term, label, _, _ = self.events[place][2]
            self.spans[give] = self.cover(term, label, self.pasts[place])
        return self.spans[give]


def record_of(events):
    """A record of a row of events."""
    record = Record()
    for event in events:
        record.take(event)
    return record
