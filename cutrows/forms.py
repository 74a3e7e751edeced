"""Forms of the parts of a certificate: each function takes any value and tells whether it is of its form."""

from cutrows.places import places
from cutrows.prices import MOST_LEVEL
from cutrows.programs import is_between, is_index, is_one_of
from cutrows.runs import are_picks

MOST_CUTS = 8
MOST_COUNT = 64


def is_count(value):
    """Tell whether the value is a number of items to execute."""
    return is_between(value, 0, MOST_COUNT)


def is_cut(value, kept):
    """Tell whether the value is a pair of cuts for a program with so many kept cells."""
    return isinstance(value, tuple) and len(value) == 2 and is_count(value[0]) and are_picks(value[1], kept)


def are_cuts(value, kept):
    """Tell whether the value is cuts for a program with so many kept cells."""
    if not isinstance(value, tuple) or len(value) > MOST_CUTS:
        return False
    return all([is_cut(pair, kept) for pair in value])


def _ascend(entries):
    return all([one < two for one, two in zip(entries, entries[1:])])


def _is_fact(value, words, positions, cells):
    if not isinstance(value, tuple) or len(value) != 3 or value[1] not in words:
        return False
    return is_between(value[0], positions[0], positions[1]) and is_index(value[2], cells)


def are_facts(value, words, positions, cells):
    """Tell whether the value is an ascending tuple of facts with these words, of so many cells.

    positions are the first and the last position that the facts may have.
    """
    if not isinstance(value, tuple):
        return False
    return all([_is_fact(fact, words, positions, cells) for fact in value]) and _ascend(value)


def _is_pair(value, positions, cells):
    if not isinstance(value, tuple) or len(value) != 2:
        return False
    return is_between(value[0], positions[0], positions[1]) and is_index(value[1], cells)


def are_pairs(value, positions, cells):
    """Tell whether the value is an ascending tuple of pairs of a position and one of so many cells.

    positions are the first and the last position that the pairs may have.
    """
    if not isinstance(value, tuple):
        return False
    return all([_is_pair(pair, positions, cells) for pair in value]) and _ascend(value)


def is_way(value, many):
    """Tell whether the value is a non-empty ascending tuple of indices of so many items."""
    if not isinstance(value, tuple) or not value:
        return False
    return all([is_index(index, many) for index in value]) and _ascend(value)


def is_plan(program, value):
    """Tell whether the value is a plan of the program."""
    if not isinstance(value, tuple):
        return False
    stops = places(program)[1:-1]
    return all([is_one_of(place, stops) for place in value]) and _ascend(value)


def are_levels(program, value):
    """Tell whether the value is a tuple of a level for each place of the program."""
    if not isinstance(value, tuple) or len(value) != len(places(program)):
        return False
    return all([is_between(level, 0, MOST_LEVEL) for level in value])
