"""What a call tells: its answer, or the error that it raises."""

ANYTHING = (
    None, True, False, 0, 1, -1, 10 ** 49, "", "a", "1/2", "abc", (), [], (1,), [1], (0, 1), [0, 1], (0, 1, 2), (None,),
    (True, 1), (1, True), ("a", "b"), ["a", "b"], ((), ()), ((((),),),), [[[]]], ("value", 1), ("start", None),
    ((0, 0, 0), (0, 1)), ((0, 0, 0), (0, 1), ("tick",), 0), ((0, 0, 0), (0, 1), ["tick"]), (((0, 0, 0),),),
)


def told(function, *parts, **named):
    """("gives", answer) or (name of the error, its argument)."""
    try:
        return ("gives", function(*parts, **named))
    except ValueError as error:
        return (error.__class__.__name__, error.value if hasattr(error, "value") else error.at)


def nested(deep, inner=1, kind=tuple):
    """A value that is nested so deep."""
    value = inner
    for _ in range(deep):
        value = kind([value])
    return value
