"""Random deeds for fields, often such as make sense."""

from fractions import Fraction

from tests.slow_webs import bounds, pair

LABELS = ("a", "b", "c")


def some_entry(dice, nodes):
    return dice.choice((None, ("value", dice.randint(0, 3)), ("value", dice.randint(0, 3)), ("name", (dice.choice(LABELS),)),
                        ("page", dice.randrange(nodes), ()), ("page", dice.randrange(nodes), (("a", ("value", 1)),))))


def some_term(dice, run):
    """The root, or a page of a run."""
    pages = [event[0] for event, _ in run if event[2][0] == "put" and event[2][3] is not None and event[2][3][0] == "page"]
    return dice.choice([()] + pages)


def some_deed(dice, field, nodes, roster):
    """Some deed; it may be one that can't be done."""
    run, letters = field.run(), field.under_way()
    lot = dice.random()
    node = dice.randrange(nodes)
    if lot < 0.55 and letters:
        kind = dice.choice(("bring",) * 8 + ("lose", "double"))
        return (kind, len(letters) - 1 if dice.random() < 0.5 else dice.randrange(len(letters)))
    if lot < 0.62:
        return ("time", pair(dice.choice((Fraction(0), Fraction(1, 2), Fraction(1), Fraction(2), Fraction(5)))))
    if lot < 0.65:
        a, b = bounds(roster, node)
        return ("clock", node, pair(dice.choice((Fraction(a), Fraction(b), Fraction(a + b, 2)))))
    if lot < 0.75:
        name = tuple(dice.choice(LABELS) for _ in range(dice.choice((1, 1, 2, 2, 3))))
        return ("ask", node, name, dice.choice((0, 1, 2)))
    term = some_term(dice, run)
    gives = [event for event, _ in run if event[2][0] == "give"]
    if lot < 0.92:
        label = dice.choice(gives)[2][2] if gives and dice.random() < 0.5 else dice.choice(LABELS)
        return ("wish", dice.choice((0, node)), term, label, some_entry(dice, nodes))
    if lot < 0.96:
        return ("hand", dice.choice((0, node)), term, dice.randrange(nodes))
    return ("forget", node, dice.choice(gives)[0]) if gives else ("time", (1, 1))
