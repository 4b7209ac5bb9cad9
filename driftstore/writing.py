"""Kept programs that carry programs."""

from driftstore.drafts import Draft
from driftstore.errors import NoWay, TooMany
from driftstore.machines import check_machine
from driftstore.parts import told_number
from driftstore.programs import MOST_KEPT, check_program, check_values, names_met
from driftstore.stands import stands


def way_behind(draft, place, way):
    """Return where a way on behind a place aims, and how many of the waits ahead of that it takes."""
    aim = draft.aims(place)[way]
    return aim, draft.waits(place, aim)


def steps_at(draft, place):
    """Return the deeds of a place; a zero has the way on as its number."""
    if draft.program[place][0] == "zero":
        return (("zero", way_behind(draft, place, 1)),)
    return draft.deeds[place]


def laid_out(draft):
    """Return the kept program of a draft, () if it does nothing at all."""
    steps = []
    starts = {}
    ahead = (draft.lands[0], 0)
    for place in draft.order:
        ladder = draft.ladders.get(place, 0)
        if ahead != (place, ladder):
            steps.append(("go", ahead))
        steps.extend([("wait",)] * ladder)
        starts[place] = len(steps)
        steps.extend(steps_at(draft, place))
        ahead = way_behind(draft, place, 0)
    if ahead != (draft.end, 0):
        steps.append(("go", ahead))
    starts[draft.end] = len(steps)
    return tuple([with_number(step, starts) for step in steps])


def with_number(step, starts):
    """Return a step whose go or zero has its number: where its aim starts, less the waits it takes."""
    if step[0] not in ("go", "zero"):
        return step
    aim, waits = step[1]
    return (step[0], starts[aim] - waits)


def written_out(stand, program):
    """Return a kept program that carries a program whose used values stand in this way."""
    draft = Draft(stand, program)
    draft.plan()
    found = laid_out(draft)
    if len(found) > MOST_KEPT:
        raise TooMany(MOST_KEPT)
    # A kept program has one instruction at least.
    return found or (("stop",),)


def kept_through(machine, hits, program):
    """Return a kept program that carries a program whatever hits come, if the machine keeps enough despite them."""
    ways = stands(machine, hits, len(names_met(program)))
    for stand in ways[:-1]:
        try:
            return written_out(stand, program)
        except TooMany:
            # With less noise the deeds may be fewer.
            continue
    return written_out(ways[-1], program)


def kept(machine, values, program):
    """Return a kept program that carries a program."""
    check_machine(machine)
    check_values(values)
    check_program(machine[0], values, program)
    if len(names_met(program)) > told_number(machine):
        raise NoWay()
    return kept_through(machine, (), program)
