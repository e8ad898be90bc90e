"""Runs the examples of the document as they stand there."""

import textwrap


def outcome(code, space):
    """What the answer to one example line is, as the document writes it."""
    try:
        value = eval(code, space)
    except Exception as error:
        told = error.value if hasattr(error, "value") else error.at
        return f"raises {error.__class__.__name__}({told!r})"
    return repr(value)


def parted(text):
    """The examples of a text: pairs of a line of code and the line that tells its answer, or None."""
    pairs = []
    for line in textwrap.dedent(text).strip().splitlines():
        if line.startswith(">>> "):
            pairs.append((line[4:], None))
        elif line.strip():
            pairs[-1] = (pairs[-1][0], line)
    return pairs


def is_statement(code):
    try:
        compile(code, "example", "eval")
    except SyntaxError:
        return True
    return False


def run_examples(case, text):
    """Runs the examples of a text, all in one space of names, and compares each answer."""
    space = {}
    pairs = parted(text)
    for code, told in pairs:
        if is_statement(code):
            exec(code, space)
        else:
            with case.subTest(code=code):
                case.assertEqual(outcome(code, space), "None" if told is None else told)
    return len(pairs)
