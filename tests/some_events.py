"""Random events of all forms, with numbers of all sizes."""

from math import gcd

KINDS = ("start", "tick", "send", "hear", "put", "give", "pass", "swear", "hand", "tell", "ask")
EDGES = (0, 1, 2, 7, 26, 63, 64, 65, 127, 128, 129, 255, 256, 8191, 8192, 16383, 16384, 2097151, 2097152, 10 ** 7)


def number(dice):
    return dice.choice(EDGES) if dice.random() < 0.7 else dice.randrange(10 ** dice.randint(1, 60))


def fraction(dice):
    n, d = number(dice) * dice.choice((1, -1)), max(1, number(dice))
    common = gcd(n, d)
    return (n // common, d // common)


def node(dice):
    return dice.choice((0, 1, 5, 30, 31))


def some_id(dice):
    return (node(dice), number(dice), number(dice))


def term(dice):
    return () if dice.random() < 0.4 else some_id(dice)


def label(dice):
    letters = dice.choice(("az", "abyz", "abcdefghijklmnopqrstuvwxyz"))
    return "".join(dice.choice(letters) for _ in range(dice.choice((1, 1, 2, 3, 7, 8))))


def name(dice, many=None):
    return tuple(label(dice) for _ in range(many or dice.randint(1, 6)))


def first_entry(dice):
    return ("value", number(dice)) if dice.random() < 0.6 else ("name", name(dice))


def page(dice, many=None):
    labels = sorted({label(dice) for _ in range(many if many is not None else dice.randint(0, 6))})
    return ("page", node(dice), tuple((one, first_entry(dice)) for one in labels))


def entry(dice):
    kind = dice.randrange(4)
    if kind == 0:
        return None
    return first_entry(dice) if kind < 3 else page(dice)


def found(dice):
    return dice.choice((("value", number(dice)), ("page", node(dice), term(dice)), ("nothing",), ("long",), ("far",)))


def answer(dice):
    return (found(dice), tuple(name(dice, dice.choice((1, 2, 6))) for _ in range(dice.choice((0, 1, 2, 9)))))


def deed(dice, kind=None):
    kind = kind or dice.choice(KINDS)
    parts = {
        "start": lambda: (None if dice.random() < 0.3 else some_id(dice),),
        "tick": lambda: (),
        "send": lambda: (node(dice),),
        "hear": lambda: (some_id(dice),),
        "put": lambda: (term(dice), label(dice), entry(dice)),
        "give": lambda: (term(dice), label(dice), fraction(dice), node(dice)),
        "pass": lambda: (some_id(dice), node(dice)),
        "swear": lambda: (some_id(dice),),
        "hand": lambda: (term(dice), node(dice)),
        "tell": lambda: (name(dice), dice.randint(0, 8), answer(dice)),
        "ask": lambda: (name(dice), dice.randint(0, 8)),
    }
    return (kind,) + parts[kind]()


def event(dice, kind=None):
    return (some_id(dice), fraction(dice), deed(dice, kind))
