"""Fractions: pairs (n, d) of whole numbers in lowest terms, d at least 1."""

from math import gcd

from goodtill.errors import BadFraction, BadText, Refused

NOUGHT = (0, 1)
ONE = (1, 1)

# Which characters may come in each state of a fraction's text, and to which state they lead.
STEPS = {
    "begin": (("-", "minus"), ("0", "nought"), ("123456789", "above")),
    "minus": (("123456789", "above"),),
    "nought": (("/", "stroke"),),
    "above": (("0123456789", "above"), ("/", "stroke")),
    "stroke": (("123456789", "beneath"),),
    "beneath": (("0123456789", "beneath"),),
}
LAST_STATES = ("nought", "above", "beneath")


def is_whole(value):
    """Whether a value is an int that is not a bool."""
    return isinstance(value, int) and not isinstance(value, bool)


def fraction_fault(value):
    """None if a value is a fraction, otherwise where it is at fault."""
    if not isinstance(value, tuple) or len(value) != 2:
        return -1
    n, d = value
    if not is_whole(n):
        return 0
    if not is_whole(d) or d < 1:
        return 1
    if gcd(n, d) != 1:
        return 2
    return None


def is_fraction(value):
    """Whether a value is a fraction."""
    return fraction_fault(value) is None


def check_fraction(value):
    """The value, if it is a fraction; otherwise raises BadFraction."""
    fault = fraction_fault(value)
    if fault is not None:
        raise BadFraction(fault)
    return value


def fraction_of(n, d):
    """The fraction that stands for n / d."""
    if d == 0:
        raise Refused(d)
    common = gcd(n, d)
    if d < 0:
        common = -common
    return (n // common, d // common)


def plus(one, two):
    """The sum of two fractions."""
    return fraction_of(one[0] * two[1] + two[0] * one[1], one[1] * two[1])


def minus(one, two):
    """The first fraction less the second."""
    return fraction_of(one[0] * two[1] - two[0] * one[1], one[1] * two[1])


def times(one, two):
    """The product of two fractions."""
    return fraction_of(one[0] * two[0], one[1] * two[1])


def over(one, two):
    """The first fraction divided by the second, which is not nought."""
    if two[0] == 0:
        raise Refused(two)
    return fraction_of(one[0] * two[1], one[1] * two[0])


def is_below(one, two):
    """Whether the first fraction is less than the second."""
    return one[0] * two[1] < two[0] * one[1]


def top_of(row):
    """The greatest fraction of a row of fractions and Nones, None if there is none."""
    top = None
    for entry in row:
        if entry is not None and (top is None or is_below(top, entry)):
            top = entry
    return top


def low_of(row):
    """The least fraction of a row of fractions and Nones, None if there is none."""
    low = None
    for entry in row:
        if entry is not None and (low is None or is_below(entry, low)):
            low = entry
    return low


def fraction_text(one):
    """The text of a fraction, as -3/4 or 5."""
    n, d = one
    if d == 1:
        return str(n)
    return f"{n}/{d}"


def state_behind(state, sign):
    """The state to which a character leads, None if it may not stand here."""
    for signs, later in STEPS[state]:
        if sign in signs:
            return later
    return None


def sign_fault(text):
    """The index at which a text cannot be that of a fraction by its signs, None if it can."""
    state = "begin"
    for at, sign in enumerate(text):
        state = state_behind(state, sign)
        if state is None:
            return at
    if state in LAST_STATES:
        return None
    return len(text)


def read_fraction(text):
    """The fraction of which a value is the text; otherwise raises BadText."""
    if not isinstance(text, str):
        raise BadText(-1)
    fault = sign_fault(text)
    if fault is not None:
        raise BadText(fault)
    stroke = text.find("/")
    if stroke == -1:
        return (int(text), 1)
    n, d = int(text[:stroke]), int(text[stroke + 1:])
    if d == 1 or gcd(n, d) != 1:
        raise BadText(stroke + 1)
    return (n, d)
