"""A slow second reading of the eleven conditions of a view, word by word, for comparison."""

import random

from goodtill.errors import BadEvent
from goodtill.events import check_event

WEIGHTY = ("put", "give", "pass", "swear", "hand")


def back(event):
    (node, life, number), _, deed = event
    if deed[0] == "start":
        return [deed[1]] if deed[1] is not None else []
    return [(node, life, number - 1)] + ([deed[1]] if deed[0] == "hear" else [])


def past_of(row, event):
    """The set of the ids of an event's past, without itself; the row has its steps back."""
    table = {other[0]: other for other in row}
    seen = set()
    todo = back(event)
    while todo:
        step = todo.pop()
        if step not in seen:
            seen.add(step)
            todo += back(table[step])
    return seen


def last_of(row, found):
    """Of some events the one that has all others in its past."""
    tops = [one for one in found if {other[0] for other in found} <= past_of(row, one) | {one[0]}]
    assert len(tops) == 1, (row, found)
    return tops[0]


def house_of(row, past, term):
    hands = [event for event in past if event[2][0] == "hand" and event[2][1] == term]
    if hands:
        return last_of(row, hands)[2][2]
    if term == ():
        return 0
    return {event[0]: event for event in row}[term][2][3][1]


def standing(row, past, term, label):
    puts = [event for event in past if event[2][:3] == ("put", term, label)]
    if puts:
        return last_of(row, puts)[2][3]
    if term != ():
        return dict({event[0]: event for event in row}[term][2][3][2]).get(label)
    return None


def is_page(event):
    return event[2][0] == "put" and event[2][3] is not None and event[2][3][0] == "page"


def depth(row, term):
    table = {event[0]: event for event in row}
    many = 0
    while term != ():
        term = table[term][2][1]
        many += 1
    return many


def orderable(row):
    """Whether the events can stand behind their steps back and in the order of their lines."""
    left = {event[0]: set(back(event)) for event in row}
    for one in list(left):
        left[one] |= {other for other in left if other[0] == one[0] and other < one}
    while left:
        free = [one for one in left if not left[one] & set(left)]
        if not free:
            return False
        for one in free:
            del left[one]
    return True


def broken(row, event):
    """Which of the conditions 1 to 11 an entry breaks behind a view; those that cannot be asked are left out."""
    try:
        check_event(event)
    except BadEvent:
        return {1}
    faults = set()
    (node, life, number), reading, deed = event
    table = {other[0]: other for other in row}
    if event[0] in table:
        faults.add(1)
    if any(step not in table for step in back(event)):
        return faults | {2}
    if deed[0] == "start":
        if number != 0 or (deed[1] is not None and not (deed[1][0] == node and deed[1][1] < life)):
            faults.add(2)
        for other in row:
            if other[2][0] == "start" and other[0][0] == node:
                low, high = sorted((other, event), key=lambda one: one[0][1])
                kept = high[2][1]
                if kept != low[2][1] and (kept is None or kept[1] < low[0][1]):
                    faults.add(3)
    for other in row:
        if other[0][0] == node:
            one, two = other[1][0] * reading[1], reading[0] * other[1][1]
            if (other[0] < event[0] and two < one) or (other[0] > event[0] and two > one):
                faults.add(4)
    if deed[0] == "hear" and table[deed[1]][2] != ("send", node):
        faults.add(5)
    if deed[0] in ("send", "give", "pass", "hand") and deed[-1] == node:
        faults.add(6)
    ids = past_of(row, event)
    past = [other for other in row if other[0] in ids]
    if deed[0] in ("put", "give", "hand"):
        term = deed[1]
        if term != () and not (term in ids and is_page(table[term])):
            faults.add(7)
        else:
            if house_of(row, past, term) != node:
                faults.add(7)
            if is_page(event) and depth(row, term) >= 5:
                faults.add(8)
            if deed[0] == "put" and not is_page(event) and standing(row, past, term, deed[2]) == deed[3]:
                faults.add(8)
    if deed[0] in ("pass", "swear") and not holds(row, past, node, deed[1]):
        faults.add(9)
    if deed[0] in WEIGHTY:
        if any(other[2][0] == "start" and other[0][0] == node and other[0][1] > life for other in row):
            faults.add(10)
    if deed[0] == "start":
        for other in row:
            if other[2][0] in WEIGHTY and other[0][0] == node and other[0][1] < life and other[0] not in ids:
                faults.add(10)
    if not orderable(list(row) + [event]):
        faults.add(11)
    return faults


def holds(row, past, node, give):
    found = [event for event in past if event[0] == give and event[2][0] == "give"]
    if not found:
        return False
    giving = found[0]
    passed = [event for event in past if event[2] == ("pass", give, node)]
    if giving[0][0] != node and giving[2][4] != node and not passed:
        return False
    if any(event[2] == ("swear", give) and event[0][0] == node for event in past):
        return False
    if giving[0][0] == node:
        for event in past:
            if event[2][0] == "hand" and event[0][0] == node and event[2][1] == giving[2][1]:
                if give in past_of(row, event):
                    return False
    return True


ENTRIES = (None, ("value", 1), ("value", 2), ("name", ("a",)), ("page", 0, ()), ("page", 1, (("a", ("value", 1)),)),
           ("page", 2, (("b", ("name", ("a", "b"))),)))


def some_deed(dice, row, node, lives):
    ids = [event[0] for event in row] or [(0, 0, 0)]
    others = [other for other in range(4) if other != node] + [node] * (dice.random() < 0.1)
    pages = [()] * 3 + [event[0] for event in row if is_page(event)] * 2 + [dice.choice(ids)]
    gives = [event[0] for event in row if event[2][0] == "give"] * 3 + [dice.choice(ids)]
    sends = [event[0] for event in row if event[2][0] == "send" and event[2][1] == node] * 5 + [dice.choice(ids)]
    kind = dice.choice(("start", "tick", "send", "send", "hear", "hear", "hear", "put", "put", "give", "pass",
                        "swear", "hand", "ask", "tell"))
    if kind == "start":
        return ("start", dice.choice([None] + [one for one in ids if one[0] == node] * 2 + [dice.choice(ids)]))
    if kind == "send":
        return ("send", dice.choice(others))
    if kind == "hear":
        return ("hear", dice.choice(sends))
    if kind == "put":
        return ("put", dice.choice(pages), dice.choice("ab"), dice.choice(ENTRIES))
    if kind == "give":
        return ("give", dice.choice(pages), dice.choice("ab"), (dice.randint(0, 9), 1), dice.choice(others))
    if kind == "pass":
        return ("pass", dice.choice(gives), dice.choice(others))
    if kind == "swear":
        return ("swear", dice.choice(gives))
    if kind == "hand":
        return ("hand", dice.choice(pages), dice.choice(others))
    if kind == "ask":
        return ("ask", ("a",), 0)
    if kind == "tell":
        return ("tell", ("a",), 0, (("nothing",), ()))
    return ("tick",)


def some_event(dice, row, nodes=4):
    """Some event that may often come behind a row."""
    node = dice.randrange(nodes)
    line = sorted((event for event in row if event[0][0] == node), key=lambda one: one[0])
    lives = sorted({event[0][1] for event in line})
    reading = (dice.randint(0, 3), 1)
    if not line or dice.random() < 0.12:
        life = (lives[-1] + 1 if lives else 0) if dice.random() < 0.6 else dice.randrange(4)
        kept = None
        if lives and dice.random() < 0.9:
            kept = dice.choice([event[0] for event in line] + [None])
        if line and dice.random() < 0.8:
            reading = line[-1][1]
        return ((node, life, 0), reading, ("start", kept))
    life = lives[-1] if dice.random() < 0.65 else dice.choice(lives)
    ahead = [event for event in line if event[0][1] == life][-1]
    number = ahead[0][2] + 1 if dice.random() < 0.97 else dice.randrange(3)
    if dice.random() < 0.85:
        reading = ahead[1]
        if life == lives[-1] and dice.random() < 0.3:
            reading = (ahead[1][0] + dice.randint(0, 2), 1)
    return ((node, life, number), reading, some_deed(dice, row, node, lives))
