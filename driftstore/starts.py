"""Memories at first: which of them sights can tell apart, without a deed."""

from driftstore.checks import is_row
from driftstore.codes import told_by
from driftstore.errors import BadMemory
from driftstore.machines import check_machine, check_memory, stirred
from driftstore.parts import looks

MOST_MEMORIES = 30
MOST_LOOKS = 8


def check_memories(machine, memories):
    """Raise BadMemory for what is no ascending tuple of 1 to 30 unlike memories."""
    if not isinstance(memories, tuple) or not 1 <= len(memories) <= MOST_MEMORIES:
        raise BadMemory()
    if not all([is_row(machine[0], memory, len(machine[1])) for memory in memories]):
        raise BadMemory()
    if not all([one < other for one, other in zip(memories, memories[1:])]):
        raise BadMemory()


def first_seen_apart(machine, one, other):
    """Return the first (ticks, sight) that tells two memories apart, None without one."""
    prime, stir, _, sights = machine
    # What isn't seen within as many ticks as there are cells never is.
    for ticks in range(len(stir)):
        for sight, row in enumerate(sights):
            told, other_told = told_by(prime, (one, other), row)
            if told != other_told:
                return ticks, sight
        one, other = stirred(prime, stir, one), stirred(prime, stir, other)
    return None


def are_apart(machine, one, other):
    """Return whether two memories can ever be told apart by sights without a deed."""
    check_machine(machine)
    check_memory(machine, one)
    check_memory(machine, other)
    return first_seen_apart(machine, one, other) is not None


def first_look(machine, one, other):
    """Return the first (ticks, sight) that tells two memories apart, None without one."""
    check_machine(machine)
    check_memory(machine, one)
    check_memory(machine, other)
    return first_seen_apart(machine, one, other)


def parted(groups, told):
    """Return the groups as they are parted by what is told of each member.

    Groups are a tuple with the first member of its group for each member.
    """
    firsts = {}
    return tuple([firsts.setdefault(pair, place) for place, pair in enumerate(zip(groups, told))])


def looks_apart(machine, memories):
    """Return the groups of memories that can never be told apart."""
    prime = machine[0]
    groups = (0,) * len(memories)
    for look in looks(machine):
        groups = parted(groups, told_by(prime, memories, look))
    return groups


def further_looks(machine, memories, ways):
    """Return the ways with one more sight: for each parting the least sights that lead to it.

    The ways so far are told likewise, with their sights ascending.
    """
    told = [told_by(machine[0], memories, sight) for sight in machine[3]]
    found = {}
    for groups, way in ways.items():
        for sight in range(len(told)):
            # The first that leads to a parting is the least, and these ascend again.
            found.setdefault(parted(groups, told[sight]), way + (sight,))
    return found


def fewest_looks(machine, memories):
    """Return the least of the shortest tuples of sights by which all that can ever be told apart are.

    One sight is seen at each tick from the first on; None if more than 8 are needed.
    """
    check_machine(machine)
    check_memories(machine, memories)
    wanted = looks_apart(machine, memories)
    ways = {(0,) * len(memories): ()}
    for _ in range(MOST_LOOKS):
        if wanted in ways:
            return ways[wanted]
        ways = further_looks(machine, memories, ways)
        memories = tuple([stirred(machine[0], machine[1], memory) for memory in memories])
    return ways.get(wanted, None)
