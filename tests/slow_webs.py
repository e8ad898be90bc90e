"""Slow second readings of chapters 8 and 9: edges, ways and fits with Python's own fractions."""

from fractions import Fraction


def number(one):
    return Fraction(one[0], one[1])


def pair(one):
    return None if one is None else (one.numerator, one.denominator)


def bounds(roster, node):
    return roster[node] if node < len(roster) else (1, 1)


def edges(roster, events):
    """All edges as rows (id, id, weight)."""
    found = []
    for node in sorted({event[0][0] for event in events}):
        line = sorted((event for event in events if event[0][0] == node), key=lambda one: one[0])
        a, b = bounds(roster, node)
        for x, y in zip(line, line[1:]):
            ticks = number(y[1]) - number(x[1])
            found.append((x[0], y[0], a * ticks))
            found.append((y[0], x[0], -b * ticks))
    for event in events:
        if event[2][0] == "hear":
            found.append((event[2][1], event[0], Fraction(0)))
    return found


def ways(roster, events):
    """All longest ways by pairs of ids, None where there is none; None for all if there is a positive ring."""
    ids = [event[0] for event in events]
    far = {(x, y): Fraction(0) if x == y else None for x in ids for y in ids}
    for x, y, weight in edges(roster, events):
        if far[x, y] is None or far[x, y] < weight:
            far[x, y] = weight
    for m in ids:
        for x in ids:
            for y in ids:
                if far[x, m] is not None and far[m, y] is not None:
                    through = far[x, m] + far[m, y]
                    if far[x, y] is None or through > far[x, y]:
                        far[x, y] = through
    if any(far[x, x] > 0 for x in ids):
        return None
    return far


def is_fit(roster, events, instants):
    at = {event[0]: number(instant) for event, instant in zip(events, instants)}
    return all(at[y] - at[x] >= weight for x, y, weight in edges(roster, events))


def some_roster(dice, nodes=4):
    """Some bounds, often tight, so that rings are not rare."""
    pairs = []
    for _ in range(dice.randint(0, nodes)):
        a = dice.randint(1, 3)
        pairs.append((a, a + dice.choice((0, 0, 1, 3))))
    return tuple(pairs)
