"""What a house may change on the pages that it keeps, and how long it waits."""

from goodtill.errors import Refused
from goodtill.holding import has_left, holders
from goodtill.promises import time_left
from goodtill.rates import NOUGHT, is_below, low_of, minus, over, plus, times, top_of
from goodtill.sight import sight_of, timeless_sight
from goodtill.tree import is_cut_off, way_down


def begins_later_life(event_id):
    """Whether an id is that of a start of a life above 0."""
    return event_id[1] > 0 and event_id[2] == 0


def entries_by(sight):
    """The ids of the events at which a way from beyond a node's view may lead into it, ascending."""
    points = {}
    for node, line in sight.record.lines.items():
        if node != sight.node:
            points[line[-1]] = True
        for at, event_id in enumerate(line):
            if begins_later_life(event_id):
                points[event_id] = True
                if at > 0:
                    points[line[at - 1]] = True
    return sorted(points)


def shut_by(sight, term, label):
    """The places on the way down to a place whose pages nobody but the node can keep."""
    return [place for place in way_down(sight.record, term, label) if sight.is_sole(place[0])]


def others_bound(sight, give):
    """The nodes other than this one that, by what others can have seen, hold a promise and have not sworn it off."""
    others = [node for node in holders(sight.record, give, sight.common) if node != sight.node]
    return [node for node in others if not has_left(sight.record, give, node, sight.whole)]


def time_by(sight, give, point):
    """By how much what others can count from an entry point to the end of an own promise is above what has passed.

    None if they can count nothing from there.
    """
    counted = sight.ways.way_left(point)
    if counted is None:
        return None
    left = sight.record.event(sight.left)
    ahead = times(sight.bounds(sight.node)[0], minus(sight.record.event(give)[2][3], left[1]))
    return minus(plus(counted, ahead), sight.ways.way_in(point))


def threats(sight, give):
    """How long yet others may go by a promise: pairs (entry point, or None if it is another's, time above nought)."""
    if not sight.is_common(give) or others_bound(sight, give) == []:
        return []
    if give[0] != sight.node:
        pairs = [(None, time_left(sight, give))]
    else:
        # Where the node's own clock reads the end, time_by is at nought or below for each entry point.
        pairs = [(point, time_by(sight, give, point)) for point in entries_by(sight)]
    return [(point, time) for point, time in pairs if time is not None and is_below(NOUGHT, time)]


def life_of(sight, give):
    """Why a promise is alive, None if it isn't."""
    found = threats(sight, give)
    if found == []:
        return None
    return ("other",) if give[0] != sight.node else ("own", found[0][0])


def alive_on(sight, place):
    """The ids of the promises on a place that are alive, ascending."""
    gives = sight.promises_on(place[0], place[1])
    return [give for give in gives if threats(sight, give)]


def time_shut(sight, place):
    """How long yet others may go by a promise on a place."""
    gives = sight.promises_on(place[0], place[1])
    return top_of([NOUGHT] + [time for give in gives for _, time in threats(sight, give)])


def need_house(sight, term, label):
    """Raises Refused if a page is not there, or the node does not keep it."""
    sight.need_page(term)
    if not sight.keeps(term):
        raise Refused((term, label))


def put_by(sight, term, label):
    """Whether a node may change a place of a page that it keeps, and why, or why not."""
    if is_cut_off(sight.record, term, sight.whole):
        return ("let", "broken")
    least = []
    for place in shut_by(sight, term, label):
        gives = alive_on(sight, place)
        if gives == []:
            return ("let", place)
        least.append(gives[0])
    return ("not", tuple(least))


def ticks_to_put(sight, term, label):
    """How many ticks of its own a node waits at the least to change a place of a page that it keeps."""
    if is_cut_off(sight.record, term, sight.whole):
        return NOUGHT
    longest = [time_shut(sight, place) for place in shut_by(sight, term, label)]
    return over(low_of(longest), sight.bounds(sight.node)[0])


def ticks_promised(sight, term, label):
    """By how much the last end that a node has promised itself on a place is above its reading, nought if it is not."""
    own = [give for give in sight.promises_on(term, label) if give[0] == sight.node]
    ends = [minus(sight.record.event(give)[2][3], sight.reading()) for give in own]
    return top_of([NOUGHT] + ends)


def entry_points(events, node):
    """The ids of the events at which a way from beyond a node's view may lead into it, ascending."""
    return tuple(entries_by(timeless_sight(events, node)))


def shut_places(events, node, term, label):
    """The places on the way down to a place whose pages nobody but the node can keep."""
    sight = timeless_sight(events, node)
    sight.need_page(term)
    return tuple(shut_by(sight, term, label))


def why_alive(roster, events, node, give):
    """Why by all that a node has seen others may still go by a promise, None if they may not."""
    sight = sight_of(roster, events, node)
    sight.need_give(give)
    return life_of(sight, give)


def may_put(roster, events, node, term, label):
    """Whether a node may change a place of a page that it keeps, and why, or why not."""
    sight = sight_of(roster, events, node)
    need_house(sight, term, label)
    return put_by(sight, term, label)


def put_wait(roster, events, node, term, label):
    """How many ticks of its own a node waits at the least to change a place of a page that it keeps."""
    sight = sight_of(roster, events, node)
    need_house(sight, term, label)
    return ticks_to_put(sight, term, label)


def own_end(events, node, term, label):
    """By how much the last end that a node has promised itself on a place is above its reading, nought if it is not."""
    sight = timeless_sight(events, node)
    need_house(sight, term, label)
    return ticks_promised(sight, term, label)
