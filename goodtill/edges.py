"""Edges between the events of a row, and the longest ways along edges.

Weights are whole numbers here: times over one denominator, the unit.
"""

from math import lcm

from goodtill.forms import kind_of
from goodtill.rates import fraction_of


def bounds_of(roster, node):
    """How short and how long a tick of a node's clock can be."""
    if node < len(roster):
        return roster[node]
    return (1, 1)


def unit_of(fractions):
    """A denominator that serves for all of some fractions."""
    unit = 1
    for one in fractions:
        unit = lcm(unit, one[1])
    return unit


def unit_of_row(events):
    """A denominator that serves for all readings of a row."""
    return unit_of([event[1] for event in events])


def scaled(one, unit):
    """A fraction over the unit, as a whole number."""
    return one[0] * (unit // one[1])


def unscaled(number, unit):
    """The fraction for a number over the unit, None for None."""
    if number is None:
        return None
    return fraction_of(number, unit)


def all_unscaled(far, unit):
    """The fractions for a row of numbers over the unit."""
    return tuple([unscaled(number, unit) for number in far])


def places_of(events):
    """The places of a row under the ids of its events."""
    return {event[0]: place for place, event in enumerate(events)}


def clock_weights(roster, ahead, behind, unit):
    """The weights of the edges between two neighbours, to the later one and back."""
    a, b = bounds_of(roster, ahead[0][0])
    ticks = scaled(behind[1], unit) - scaled(ahead[1], unit)
    return (a * ticks, -b * ticks)


def edges_of(roster, events, unit):
    """All edges of a row, as rows (place it leads from, place it leads to, weight)."""
    places = places_of(events)
    edges = []
    ahead = None
    for event in sorted(events, key=lambda row: row[0]):
        place = places[event[0]]
        if ahead is not None and ahead[0][0] == event[0][0]:
            weight, back = clock_weights(roster, ahead, event, unit)
            edges.append((places[ahead[0]], place, weight))
            edges.append((place, places[ahead[0]], back))
        if kind_of(event) == "hear":
            edges.append((places[event[2][1]], place, 0))
        ahead = event
    return sorted(edges)


def turned(edges):
    """The edges with their ends exchanged."""
    return sorted([(y, x, weight) for x, y, weight in edges])


def passed_once(far, before, edges):
    """Raises what edges ask to be greater, once along all; a place that was raised, None if none was."""
    raised = None
    for x, y, weight in edges:
        if far[x] is not None and (far[y] is None or far[x] + weight > far[y]):
            far[y] = far[x] + weight
            before[y] = x
            raised = y
    return raised


def settled(start, edges):
    """The least numbers from a start on of which each edge is served.

    Returns them, the place from which each was raised last, and None if they are settled; otherwise, in the
    place of None, a place that was raised in as many passes as there are places, so from a positive ring.
    """
    far, before = list(start), [None] * len(start)
    raised = None
    for _ in range(len(far)):
        raised = passed_once(far, before, edges)
        if raised is None:
            break
        # Both orders in turn: ways that lead down the row go on in one pass, those that lead up in the next.
        edges = edges[::-1]
    return far, before, raised


def longest_ways(many, edges, place):
    """The lengths of the longest ways from one place to each, None where there is no way."""
    start = [None] * many
    start[place] = 0
    return settled(start, edges)[0]
