"""Fits: instants for the events of a row that all bounds of time allow."""

from math import lcm

from goodtill.edges import (
    all_unscaled, bounds_of, edges_of, longest_ways, places_of, scaled, settled, turned, unit_of, unit_of_row,
)
from goodtill.errors import Refused
from goodtill.forms import kind_of
from goodtill.rates import is_below, minus, plus, times


def is_apart(bounds, ahead, behind):
    """Whether two pairs (reading, instant) of one clock, in their order, stand as far apart as it can go."""
    ticks = minus(behind[0], ahead[0])
    apart = minus(behind[1], ahead[1])
    least, most = times((bounds[0], 1), ticks), times((bounds[1], 1), ticks)
    return not is_below(apart, least) and not is_below(most, apart)


def stands_well(roster, line, event, instant):
    """Whether an event's instant goes with those of its neighbours on its line, rows (id, reading, instant)."""
    bounds = bounds_of(roster, event[0][0])
    here = (event[1], instant)
    ahead = [row for row in line if row[0] < event[0]]
    behind = [row for row in line if row[0] > event[0]]
    if ahead and not is_apart(bounds, max(ahead)[1:], here):
        return False
    return not behind or is_apart(bounds, here, min(behind)[1:])


def fit_fault(roster, events, instants):
    """The first place at which instants are no fit of a row, None if they are one."""
    lines, stood = {}, {}
    for place, event in enumerate(events):
        instant = instants[place]
        line = lines.setdefault(event[0][0], [])
        if not stands_well(roster, line, event, instant):
            return place
        if kind_of(event) == "hear" and is_below(instant, stood[event[2][1]]):
            return place
        line.append((event[0], event[1], instant))
        stood[event[0]] = instant
    return None


def lowered(far, edges, back):
    """The row of lengths with numbers for the Nones, at -back or below, of which each edge is served."""
    free = settled([0] * len(far), edges)[0]
    down = 0
    for number, known in zip(free, far):
        if known is None:
            down = max(down, number + back)
    for x, y, weight in edges:
        if far[x] is None and far[y] is not None:
            down = max(down, free[x] + weight - far[y])
    return [number - down if known is None else known for number, known in zip(free, far)]


def earliest_fit(roster, events, event_id, back):
    """Some fit with an event at 0, all to which it has a way as early as can be, the others far back."""
    places = places_of(events)
    if event_id not in places:
        raise Refused(event_id)
    unit = lcm(unit_of_row(events), back[1])
    edges = edges_of(roster, events, unit)
    far = longest_ways(len(events), edges, places[event_id])
    return all_unscaled(lowered(far, edges, scaled(back, unit)), unit)


def latest_fit(roster, events, event_id):
    """The fit with an event at 0 and each other one as late ahead of it as can be."""
    places = places_of(events)
    if event_id not in places:
        raise Refused(event_id)
    unit = unit_of_row(events)
    far = longest_ways(len(events), turned(edges_of(roster, events, unit)), places[event_id])
    for event, way in zip(events, far):
        if way is None:
            raise Refused(event[0])
    return all_unscaled([-way for way in far], unit)


def mixed_fit(one, two, part):
    """Place by place what lies between two fits, at a part of the way from the first to the second."""
    return tuple([plus(s, times(part, minus(t, s))) for s, t in zip(one, two)])


def met_wishes(roster, events, wishes):
    """Some fit that meets all wishes, None if there is none."""
    places = places_of(events)
    for x, y, _ in wishes:
        if x not in places:
            raise Refused(x)
        if y not in places:
            raise Refused(y)
    unit = lcm(unit_of_row(events), unit_of([w for _, _, w in wishes]))
    edges = edges_of(roster, events, unit) + [(places[x], places[y], scaled(w, unit)) for x, y, w in wishes]
    far, _, raised = settled([0] * len(events), sorted(edges))
    if raised is not None:
        return None
    return all_unscaled(far, unit)
