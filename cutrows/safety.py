"""Safe programs: no cuts let the receiver see what a run without cuts could not have shown."""

from cutrows.facts import facts_of, is_bad, lineage, next_mark
from cutrows.programs import is_kept
from cutrows.runs import after_cuts


def _bad_facts(program):
    return [fact for fact in facts_of(program) if is_bad(program, fact)]


def is_safe(program):
    """Tell whether the runs of the program are good with all cuts."""
    return not _bad_facts(program)


def _picks_for(program, cell, pick):
    return tuple([pick if other == cell else 0 for other in range(program[0])])


def _cut_that_leaves_another(program, position, cell):
    """Return a pair that leads back to the position and leaves the kept cell with another value there."""
    count = next_mark(program, position)
    left = after_cuts(program, (), count)[2][cell]
    right = after_cuts(program, (), position)[1][cell]
    # Without cuts each value of a list is made by another item, so at most one is the right one.
    return (count, _picks_for(program, cell, 0 if left[0] != right else 1))


def cuts_for(program, fact):
    """Return cuts of one pair that lead back to where a first fact with the word wrong is, and make it so.

    Right after them, the cell has another shape than it has there without cuts.
    """
    position, _, cell = fact
    if is_kept(program, cell):
        return (_cut_that_leaves_another(program, position, cell),)
    # A loose cell is lost by a cut right at the position.
    return ((position, (0,) * program[0]),)


def spoiling(program):
    """Return cuts of one pair with which the run is not good, or None if the program is safe."""
    bad = _bad_facts(program)
    if not bad:
        return None
    first = lineage(program, bad[0])[0]
    if first[1] == "wrong":
        return cuts_for(program, first)
    # An open answer is asked for once more if the cut comes behind the send that has shown it.
    return ((bad[0][0] + 1, (0,) * program[0]),)
