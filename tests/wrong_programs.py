"""Values that are no program, and values that are no instruction."""

from wrong_values import FAR_INTEGERS, NO_INTEGERS, NO_ROW_PARTS, put_in

BARE = ("say", "ask", "stop")
BARE_KEPT = BARE + ("wait",)


def program_numbers(prime, values, many):
    """For each word with a number the most that it may be, in a program of so many instructions."""
    names = dict.fromkeys(("get", "plus", "minus", "add", "take"), values - 1)
    return {**names, "put": prime - 1, "zero": many, "go": many}


def kept_numbers(machine, many):
    """For each word with a number the most that it may be, in a kept program of so many instructions."""
    seen = dict.fromkeys(("get", "plus", "minus"), len(machine[3]) - 1)
    written = dict.fromkeys(("add", "take"), len(machine[2]) - 1)
    return {**seen, **written, "put": machine[0] - 1, "zero": many, "go": many}


def right_instructions(numbers, bare):
    """All that are instructions."""
    return [(word,) for word in bare] + [(word, k) for word, most in numbers.items() for k in range(most + 1)]


def wrong_instructions(numbers, bare):
    """Many that are none."""
    found = [value for value in NO_ROW_PARTS if value not in right_instructions(numbers, bare)]
    found += ["say", "wait", "get 0", ["say"], ["get", 0], {"get": 0}, {0: "get", 1: 0}, (("say",),), (("get", 0),)]
    found += [(word, 0) for word in ("see", "Get", "GET", "get ", "", "jump", "say ", "get0", "if", "halt")]
    found += [(word,) for word in ("see", "Say", "say ", "", "end", "waits", "get 0", "s")]
    found += [(value,) for value in NO_ROW_PARTS if not isinstance(value, str)]
    found += [(value, 0) for value in NO_ROW_PARTS if not isinstance(value, str)]
    for word, most in numbers.items():
        found += [(word, value) for value in NO_INTEGERS + FAR_INTEGERS]
        found += [(word,), (word, 0, 0), (word, 0, None), (word, -1), (word, most + 1), (word, most + 2), (0, word)]
    for word in BARE_KEPT:
        found += [(word, 0), (word, None), (word, ()), (word, word), (word, 0, 0)]
    if "wait" not in bare:
        found.append(("wait",))
    return found


def wrong_programs(good, most, wrong):
    """Pairs of what is no program and the index that the error has."""
    found = [(value, None) for value in NO_ROW_PARTS if not isinstance(value, tuple) or value == ()]
    found += [(list(good), None), ("say", None), (dict(enumerate(good)), None), ({("say",): 0}, None), (0, None)]
    found += [((good[0],) * (most + 1), None), ((good[0],) * (most + 2), None), ((None,) * (most + 1), None)]
    found += [((value,), 0) for value in wrong[::7]]
    for count, value in enumerate(wrong):
        place = count % len(good)
        found.append((put_in(good, place, value), place))
        if place + 1 < len(good):
            # A second wrong one behind it changes nothing.
            found.append((put_in(put_in(good, place, value), place + 1, None), place))
    return found
