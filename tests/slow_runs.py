"""A slow second reading of chapter 10, word by word, for comparison."""

from fractions import Fraction

from tests.slow_views import WEIGHTY, back, broken, some_deed
from tests.slow_webs import bounds, number, pair


def full_past(row, event):
    """The ids of an event's past with itself; the row has all but perhaps the event."""
    table = {other[0]: other for other in row}
    table[event[0]] = event
    seen, todo = set(), [event[0]]
    while todo:
        step = todo.pop()
        if step not in seen:
            seen.add(step)
            todo += back(table[step])
    return seen


def is_torn(row, ids):
    events = [event for event in row if event[0] in ids]
    for deed in events:
        for start in events:
            if deed[2][0] in WEIGHTY and start[2][0] == "start" and start[0][0] == deed[0][0]:
                if start[0][1] > deed[0][1] and deed[0] not in full_past(row, start):
                    return True
    return False


def is_at_fault(roster, run, event, instant):
    """Whether an entry is at fault behind a run; the event is one, the instant a fraction."""
    row = [other for other, _ in run]
    known = {other[0] for other in row}
    if event[0] in known or any(step not in known for step in back(event)):
        return True
    torn = is_torn(row + [event], full_past(row, event))
    if torn and event[2][0] != "hear":
        return True
    if any(other[0][0] == event[0][0] and other[0] >= event[0] for other in row):
        return True
    if broken(row, event) - {10, 11}:
        return True
    if run and number(instant) < number(run[-1][1]):
        return True
    own = [entry for entry in run if entry[0][0][0] == event[0][0]]
    if own:
        a, b = bounds(roster, event[0][0])
        ticks = number(event[1]) - number(own[-1][0][1])
        apart = number(instant) - number(own[-1][1])
        return apart < a * ticks or apart > b * ticks
    return False


def lost_ids(run):
    """The ids of all lost weighty deeds."""
    row = [event for event, _ in run]
    lost = set()
    for deed in row:
        for start in row:
            if deed[2][0] in WEIGHTY and start[2][0] == "start" and start[0][0] == deed[0][0]:
                if start[0][1] > deed[0][1] and deed[0] not in full_past(row, start):
                    lost.add(deed[0])
    return lost


def truth(run, place, name, most):
    """The answer of a walk, step by step as the document tells it."""
    lost = lost_ids(run)
    puts = [event for event, _ in run[:place] if event[2][0] == "put" and event[0] not in lost]
    names, term, left = [], (), list(name)
    while True:
        label = left.pop(0)
        here = [event for event in puts if event[2][1] == term and event[2][2] == label]
        made = [event for event in puts if event[0] == term]
        entry = here[-1][2][3] if here else dict(made[0][2][3][2]).get(label) if made else None
        if entry is None or (entry[0] == "value" and left):
            return (("nothing",), tuple(names))
        if entry[0] == "value":
            return (entry, tuple(names))
        if entry[0] == "page":
            if not left:
                return (("page", entry[1], here[-1][0]), tuple(names))
            term = here[-1][0]
            continue
        names.append(entry[1])
        if len(names) > most:
            return (("far",), tuple(names))
        if len(entry[1]) + len(left) > 6:
            return (("long",), tuple(names))
        term, left = (), list(entry[1]) + left


def some_entry(dice, roster, run, nodes=4):
    """Some event with an instant that may often come behind a run."""
    row = [event for event, _ in run]
    now = number(run[-1][1]) if run else Fraction(0)
    if dice.random() < 0.4:
        now += Fraction(dice.randint(0, 4), dice.choice((1, 2)))
    if dice.random() < 0.03:
        now -= 1
    node = dice.randrange(nodes)
    own = [entry for entry in run if entry[0][0][0] == node]
    reading = Fraction(dice.randint(0, 5))
    if own:
        a, b = bounds(roster, node)
        apart = now - number(own[-1][1])
        part = dice.choice((0, 0, 1, 1, Fraction(1, 3), Fraction(-1, 50), Fraction(51, 50)))
        reading = number(own[-1][0][1]) + apart / b + part * (apart / a - apart / b)
    life = own[-1][0][0][1] if own else 0
    count = own[-1][0][0][2] + 1 if own else 0
    if not own or dice.random() < 0.12:
        life = life + 1 if own else dice.choice((0, 0, 0, 1))
        ids = [entry[0][0] for entry in own]
        kept = dice.choice(ids + ids[-3:] + [None]) if dice.random() < 0.95 else dice.choice([(0, 0, 0), None])
        deed, count = ("start", kept), 0
    else:
        deed = some_deed(dice, row, node, [life])
        if dice.random() < 0.03:
            life, count = dice.randrange(3), dice.randrange(4)
    return ((node, life, count), pair(reading), deed), pair(now)


def some_run(dice, roster, many, nodes=4, tries=300):
    """Some run of at most so many entries."""
    run = []
    for _ in range(tries):
        if len(run) == many:
            break
        event, instant = some_entry(dice, roster, run, nodes)
        if not is_at_fault(roster, run, event, instant):
            run.append((event, instant))
    return tuple(run)
