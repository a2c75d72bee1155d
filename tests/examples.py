"""Runs examples that are written as in the document."""


def examples(text):
    """The pairs (input, what stands below it, "" for nothing) of a text."""
    found = []
    for line in [line.strip() for line in text.splitlines() if line.strip()]:
        if line.startswith(">>> "):
            found.append((line[4:], ""))
        else:
            asked, told = found[-1]
            assert told == "", line
            found[-1] = (asked, line)
    return found


def shown(asked, space):
    """What a shell would show: the value, or the error with all that it keeps."""
    try:
        try:
            value = eval(asked, space)
        except SyntaxError:
            exec(asked, space)
            return ""
    except (LookupError, ValueError) as error:
        kept = ", ".join([f"{name}={worth!r}" for name, worth in vars(error).items()])
        return f"raises {error.__class__.__name__}({kept})"
    return "" if value is None else repr(value)


def check(case, text, space):
    """Runs all examples in one space of names; each is shown to the letter."""
    for asked, told in examples(text):
        with case.subTest(asked=asked):
            case.assertEqual(shown(asked, space), told)
