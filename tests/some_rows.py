"""Random rows of events that are views, with fractions as readings."""

import random
from fractions import Fraction

from goodtill.coming import may_come
from goodtill.record import Record
from tests.slow_views import back, some_event
from tests.slow_webs import pair, some_roster


def some_row(dice, many, nodes=4, tries=400):
    """Some view of at most so many events."""
    row, record = [], Record()
    for _ in range(tries):
        if len(row) == many:
            break
        event = some_event(dice, row, nodes)
        if event[2][0] in ("tell", "ask", "tick") and dice.random() < 0.6:
            continue
        if may_come(record, event):
            row.append(event)
            record.take(event)
    return tuple(row)


def with_readings(dice, row):
    """The row with other readings, so that clocks often go too fast or too slow for its letters."""
    readings = {}
    for node in range(8):
        now = Fraction(0)
        for event in sorted((one for one in row if one[0][0] == node), key=lambda one: one[0]):
            now += dice.choice((0, 1, 1, Fraction(1, 2), 2, 5, Fraction(7, 3)))
            readings[event[0]] = pair(now)
    return tuple((event_id, readings[event_id], deed) for event_id, _, deed in row)


def letters_row(dice, many, nodes):
    """A row of starts, sends and hearings alone."""
    row = [((node, 0, 0), (0, 1), ("start", None)) for node in range(nodes)]
    counts = [1] * nodes
    while len(row) < many:
        node = dice.randrange(nodes)
        sends = [event[0] for event in row if event[2] == ("send", node)]
        if sends and dice.random() < 0.6:
            deed = ("hear", dice.choice(sends))
        else:
            deed = ("send", dice.choice([other for other in range(nodes) if other != node]))
        row.append(((node, 0, counts[node]), (0, 1), deed))
        counts[node] += 1
    return tuple(row)


def rows_with_clocks(seed, many):
    """Random rosters with rows, with fits and without."""
    for number in range(many):
        dice = random.Random(seed + number)
        if number % 4:
            row = letters_row(dice, dice.randint(5, 18), dice.randint(2, 4))
        else:
            row = some_row(dice, dice.randint(1, 16), dice.randint(1, 3))
        yield dice, some_roster(dice), with_readings(dice, row)


def in_some_order(dice, events):
    """Some events in another order in which each stands behind its steps back, where these are among them."""
    left, made = list(events), []
    while left:
        ids = {event[0] for event in left}
        made.append(dice.choice([event for event in left if not ids & set(back(event))]))
        left.remove(made[-1])
    return tuple(made)
