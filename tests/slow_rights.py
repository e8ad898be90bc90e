"""A slow second reading of chapters 11 to 15, 18 and 19, word by word, for comparison.

Pasts are sets of ids, times Python's own fractions, and longest ways are reckoned between all events.
"""

from fractions import Fraction

from goodtill.errors import Refused
from goodtill.labels import is_inside
from tests.slow_runs import full_past
from tests.slow_webs import bounds, number, pair, ways


def kind(event):
    return event[2][0]


def is_page(event):
    return kind(event) == "put" and event[2][3] is not None and event[2][3][0] == "page"


class Row:
    """A row of events with their pasts."""

    def __init__(self, events):
        self.events = tuple(events)
        self.table = {event[0]: event for event in events}
        self.pasts = {event[0]: full_past(events, event) for event in events}

    def part(self, ids):
        return Row(tuple(event for event in self.events if event[0] in ids))

    def line(self, node):
        return sorted((event for event in self.events if event[0][0] == node), key=lambda one: one[0])

    def view(self, node):
        line = self.line(node)
        return self.part(self.pasts[line[-1][0]] if line else set())

    def common(self, node):
        """Of the view of a node, which this is, what others can have seen."""
        ids = set()
        for event in self.events:
            if event[0][0] != node:
                ids |= self.pasts[event[0]]
        left = [event for event in self.line(node) if kind(event) == "send" or (kind(event) == "start" and event[0][1] > 0)]
        if left:
            ids |= self.pasts[left[-1][0]]
        return self.part(ids)

    def newest(self, found):
        """The one of some events that has all others in its past; None if there is none."""
        tops = [one for one in found if all(other[0] in self.pasts[one[0]] for other in found)]
        assert len(tops) == (1 if found else 0)
        return tops[0] if found else None

    def is_there(self, term):
        return term == () or (term in self.table and is_page(self.table[term]))

    def need_page(self, term):
        if not self.is_there(term):
            raise Refused(term)

    def give(self, give):
        if give not in self.table or kind(self.table[give]) != "give":
            raise Refused(give)
        return self.table[give]

    def keeper_of(self, term):
        self.need_page(term)
        hand = self.newest([event for event in self.events if kind(event) == "hand" and event[2][1] == term])
        if hand is not None:
            return (hand[0], hand[2][2])
        return (term, 0 if term == () else self.table[term][2][3][1])

    def does_keep(self, node, term):
        view = self.view(node)
        return bool(view.events) and view.is_there(term) and view.keeper_of(term)[1] == node

    def content_of(self, term, label):
        self.need_page(term)
        put = self.newest([event for event in self.events if event[2][:3] == ("put", term, label)])
        if put is not None:
            return (put[0], put[2][3])
        return (term, None if term == () else dict(self.table[term][2][3][2]).get(label))

    def marked(self, term):
        """The labels that bear a put or a first entry."""
        labels = {event[2][2] for event in self.events if event[2][:2] == ("put", term)}
        return sorted(labels | (set() if term == () else {label for label, _ in self.table[term][2][3][2]}))

    def page_rows(self, term):
        self.need_page(term)
        rows = [(label, self.content_of(term, label)[1]) for label in self.marked(term)]
        return tuple(row for row in rows if row[1] is not None)

    def page_gap(self, term, label):
        labels = [first for first, _ in self.page_rows(term)]
        if label in labels:
            raise Refused(label)
        return (max([one for one in labels if one < label], default=None), min([one for one in labels if one > label], default=None))

    def way_to(self, term, label):
        self.need_page(term)
        if term == ():
            return (((), label),)
        return self.way_to(self.table[term][2][1], self.table[term][2][2]) + ((term, label),)

    def is_broken(self, term):
        self.need_page(term)
        if term == ():
            return False
        _, above, label, _ = self.table[term][2]
        return self.content_of(above, label)[0] != term or self.is_broken(above)

    def walk(self, name, most):
        names, way, term, left = [], [], (), list(name)
        while True:
            label = left.pop(0)
            if (term, label) not in way:
                way.append((term, label))
            put, entry = self.content_of(term, label)
            found = None
            if entry is None or (entry[0] == "value" and left):
                found = ("nothing",)
            elif entry[0] == "value":
                found = entry
            elif entry[0] == "page":
                if left:
                    term = put
                else:
                    found = ("page", entry[1], put)
            else:
                names.append(entry[1])
                if len(names) > most:
                    found = ("far",)
                elif len(entry[1]) + len(left) > 6:
                    found = ("long",)
                else:
                    term, left = (), list(entry[1]) + left
            if found is not None:
                return ((found, tuple(names)), tuple(way))

    def span_of(self, give):
        _, term, label, _, _ = self.give(give)[2]
        past = self.part(self.pasts[give])
        if past.content_of(term, label)[1] is not None:
            return ("label", label)
        return ("gap",) + past.page_gap(term, label)

    def gives_on(self, term, label):
        self.need_page(term)
        found = []
        for event in self.events:
            if event[2][:2] != ("give", term):
                continue
            span = self.span_of(event[0])
            covers = span[1] == label if span[0] == "label" else is_inside(span[1], label, span[2])
            behind = [put for put in self.events if put[2][:3] == ("put", term, label) and event[0] in self.pasts[put[0]]]
            if covers and not behind:
                found.append(event[0])
        return tuple(sorted(found))

    def holders_of(self, give):
        event = self.give(give)
        return tuple(sorted({give[0], event[2][4]} | {one[2][2] for one in self.events if one[2][:2] == ("pass", give)}))

    def swears(self, give, node):
        return any(event[2] == ("swear", give) and event[0][0] == node for event in self.events)

    def has_sworn(self, give, node):
        term = self.give(give)[2][1]
        hands = [event for event in self.events if event[2][:2] == ("hand", term) and event[0][0] == node]
        return self.swears(give, node) or (give[0] == node and any(give in self.pasts[event[0]] for event in hands))

    def keeper_rows(self, term):
        self.need_page(term)
        hands = [event for event in self.events if event[2][:2] == ("hand", term)]
        hands = sorted(hands, key=lambda one: len([other for other in hands if other[0] in self.pasts[one[0]]]))
        return ((term, 0 if term == () else self.table[term][2][3][1]),) + tuple((event[0], event[2][2]) for event in hands)

    def owed_gives(self, node, term):
        view = self.view(node)
        if not view.events:
            raise Refused(node)
        view.need_page(term)
        if view.keeper_of(term)[1] != node:
            raise Refused(term)
        labels = set(view.marked(term)) | {event[2][2] for event in view.events if event[2][:2] == ("give", term)}
        rows = [(label, view.gives_on(term, label)) for label in sorted(labels)]
        return tuple(row for row in rows if row[1])


class Eye:
    """The view of a node that has an event, and its rights."""

    def __init__(self, roster, events, node):
        self.view = Row(events).view(node)
        if not self.view.events:
            raise Refused(node)
        self.roster, self.node = roster, node
        self.shared = self.view.common(node)
        self.e = self.view.line(node)[-1]
        self.far = ways(roster, self.view.events)
        self.far_shared = ways(roster, self.shared.events)

    def bounds(self, node):
        return bounds(self.roster, node)

    def is_fast(self, term):
        row, keeper = self.view.keeper_of(term)
        return keeper == self.node or (row != () and row not in self.shared.table)

    def clock(self, give):
        """y, E - C, and the giver's bounds."""
        newest = self.view.line(give[0])[-1]
        return newest[0], number(self.view.give(give)[2][3]) - number(newest[1]), self.bounds(give[0])

    def does_stand(self, give):
        self.view.give(give)
        y, ticks, (a, _) = self.clock(give)
        far = self.far[self.e[0], y]
        return ticks > 0 and far is not None and far + a * ticks > 0

    def is_past(self, give):
        self.view.give(give)
        y, ticks, (_, b) = self.clock(give)
        return ticks <= 0 or self.far[y, self.e[0]] >= b * ticks

    def ticks(self, give):
        event = self.view.give(give)
        if give[0] == self.node:
            return number(event[2][3]) - number(self.e[1])
        y, ticks, (a, _) = self.clock(give)
        far = self.far[self.e[0], y]
        return None if far is None else (far + a * ticks) / self.bounds(self.node)[1]

    def ticks_left(self, give):
        return pair(self.ticks(give))

    def serves(self, give):
        if give[0] == self.node or self.node not in self.view.holders_of(give) or self.shared.swears(give, self.node):
            return False
        return self.does_stand(give)

    def best(self, gives):
        good = [give for give in gives if self.serves(give)]
        if not good:
            return None
        most = max(self.ticks(give) for give in good)
        return min(give for give in good if self.ticks(give) == most)

    def why_certain(self, term, label):
        self.view.need_page(term)
        if self.is_fast(term):
            return ("own",)
        best = self.best(self.view.gives_on(term, label))
        return None if best is None else ("promise", best)

    def may_tell(self, name, most):
        answer, way = self.view.walk(name, most)
        for term, label in way:
            if self.why_certain(term, label) is None:
                return ("not", term, label)
        return ("told", answer)

    def least(self, places):
        """The least number of ticks of some reasons, None if all are the node's own."""
        return min([self.ticks(why[1]) for why in places if why[0] == "promise"], default=None)

    def good_ticks(self, name, most):
        if self.may_tell(name, most)[0] != "told":
            raise Refused(name)
        return pair(self.least([self.why_certain(*place) for place in self.view.walk(name, most)[1]]))

    def pocket_of(self):
        rows = []
        todo = [((), (), [])]
        while todo:
            path, term, above = todo.pop()
            cuts = self.view.marked(term)
            ends = [None] + cuts + [None]
            for k, low in enumerate(ends[:-1]):
                if k > 0:
                    why = self.why_certain(term, low)
                    if why is not None:
                        put, entry = self.view.content_of(term, low)
                        rows.append((path, 2 * k, ("label", low), entry, pair(self.least(above + [why]))))
                        if entry is not None and entry[0] == "page":
                            todo.append((path + (low,), put, above + [why]))
                why = self.over(term, low, ends[k + 1])
                if why is not None:
                    rows.append((path, 2 * k + 1, ("open", low, ends[k + 1]), None, pair(self.least(above + [why]))))
        return tuple((row[0],) + row[2:] for row in sorted(rows, key=lambda one: one[:2]))

    def over(self, term, low, high):
        if self.is_fast(term):
            return ("own",)
        wide = []
        for event in self.view.events:
            if event[2][:2] == ("give", term):
                span = self.view.span_of(event[0])
                if span[0] == "gap" and (span[1] is None or (low is not None and span[1] <= low)):
                    if span[2] is None or (high is not None and span[2] >= high):
                        wide.append(event[0])
        best = self.best(wide)
        return None if best is None else ("promise", best)

    def gaps(self):
        found = []
        for event in self.view.events:
            if kind(event) == "start" and event[0][1] > 0:
                ahead = [one[0] for one in self.view.line(event[0][0]) if one[0] < event[0]]
                found.append((ahead[-1] if ahead else None, event[0]))
        return found

    def entry_points(self):
        points = {self.view.line(event[0][0])[-1][0] for event in self.view.events if event[0][0] != self.node}
        for z, s in self.gaps():
            points |= {s} if z is None else {z, s}
        return tuple(sorted(points))

    def shut_places(self, term, label):
        return tuple(place for place in self.view.way_to(term, label) if self.is_fast(place[0]))

    def bound(self, give):
        """The holders that have not sworn, of a promise that others can have seen."""
        return tuple(one for one in self.shared.holders_of(give) if one != self.node and not self.view.has_sworn(give, one))

    def slack(self, give, y):
        """How much more is counted from an entry point to the end than has passed; None if it does not serve at all."""
        left = [one for one in self.view.line(self.node) if kind(one) == "send" or (kind(one) == "start" and one[0][1] > 0)][-1]
        far = self.far_shared[y, left[0]]
        if far is None:
            return None
        a = self.bounds(self.node)[0]
        return far + a * (number(self.view.give(give)[2][3]) - number(left[1])) - self.far[y, self.e[0]]

    def why_alive(self, give):
        end = number(self.view.give(give)[2][3])
        if give not in self.shared.table or not self.bound(give):
            return None
        if give[0] != self.node:
            return None if self.is_past(give) else ("other",)
        if number(self.e[1]) >= end:
            return None
        points = [y for y in self.entry_points() if self.slack(give, y) is not None and self.slack(give, y) > 0]
        return ("own", points[0]) if points else None

    def need_house(self, term, label):
        self.view.need_page(term)
        if self.view.keeper_of(term)[1] != self.node:
            raise Refused((term, label))

    def alive_on(self, place):
        return [give for give in self.view.gives_on(*place) if self.why_alive(give) is not None]

    def may_put(self, term, label):
        self.need_house(term, label)
        if self.view.is_broken(term):
            return ("let", "broken")
        shut = self.shut_places(term, label)
        for place in shut:
            if not self.alive_on(place):
                return ("let", place)
        return ("not", tuple(self.alive_on(place)[0] for place in shut))

    def death(self, give):
        """How many ticks a promise that is alive stays so."""
        a = self.bounds(self.node)[0]
        if give[0] != self.node:
            y, ticks, (_, b) = self.clock(give)
            return Fraction(b * ticks - self.far[y, self.e[0]]) / a
        slacks = [self.slack(give, y) for y in self.entry_points()]
        return max(Fraction(slack) / a for slack in slacks if slack is not None and slack > 0)

    def put_wait(self, term, label):
        if self.may_put(term, label)[0] == "let":
            return (0, 1)
        return pair(min(max(self.death(give) for give in self.alive_on(place)) for place in self.shut_places(term, label)))

    def own_end(self, term, label):
        self.need_house(term, label)
        ends = [number(self.view.give(give)[2][3]) for give in self.view.gives_on(term, label) if give[0] == self.node]
        return pair(max([end - number(self.e[1]) for end in ends] + [Fraction(0)]))

    def left_to_swear(self, term, label):
        if self.may_put(term, label)[0] == "let":
            return ()
        rows = []
        for place in self.shut_places(term, label):
            rows.append((place, tuple((give, self.bound(give)) for give in self.alive_on(place))))
        return tuple(rows)

    def fewest_swears(self, term, label):
        rows = self.left_to_swear(term, label)
        return min(sum(len(nodes) for _, nodes in pairs) for _, pairs in rows) if rows else 0
