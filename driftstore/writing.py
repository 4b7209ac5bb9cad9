"""Kept programs that carry programs."""

from driftstore.drafts import Draft
from driftstore.errors import NoWay, TooMany
from driftstore.machines import check_machine
from driftstore.parts import told_number
from driftstore.programs import MOST_KEPT, check_program, check_values, names_met


def way_behind(draft, place, way):
    """Return where a way on behind a place aims, and how many of the waits ahead of that it takes."""
    aim = draft.aims(place)[way]
    return aim, draft.waits(place, aim)


def steps_at(draft, place):
    """Return the deeds of a place; a zero has the way on as its number."""
    if draft.program[place][0] == "zero":
        return (("zero", way_behind(draft, place, 1)),)
    return draft.deeds[place]


def laid_out(draft):
    """Return the kept program of a draft, () if it does nothing at all."""
    steps = []
    starts = {}
    ahead = (draft.lands[0], 0)
    for place in draft.order:
        ladder = draft.ladders.get(place, 0)
        if ahead != (place, ladder):
            steps.append(("go", ahead))
        steps.extend([("wait",)] * ladder)
        starts[place] = len(steps)
        steps.extend(steps_at(draft, place))
        ahead = way_behind(draft, place, 0)
    if ahead != (draft.end, 0):
        steps.append(("go", ahead))
    starts[draft.end] = len(steps)
    return tuple([with_number(step, starts) for step in steps])


def with_number(step, starts):
    """Return a step whose go or zero has its number: where its aim starts, less the waits it takes."""
    if step[0] not in ("go", "zero"):
        return step
    aim, waits = step[1]
    return (step[0], starts[aim] - waits)


def kept(machine, values, program):
    """Return a kept program that carries a program."""
    check_machine(machine)
    check_values(values)
    check_program(machine[0], values, program)
    if len(names_met(program)) > told_number(machine):
        raise NoWay()
    draft = Draft(machine, program)
    draft.plan()
    found = laid_out(draft)
    if len(found) > MOST_KEPT:
        raise TooMany(MOST_KEPT)
    # A kept program has one instruction at least.
    return found or (("stop",),)
