"""Facts: where a cell may hold another value than without cuts, or an answer that is not saved."""

from cutrows.programs import is_kept, mark_indices, read_cells, written_cell


def next_mark(program, position):
    """Return the index of the first mark from the position on, or the number of items if there is none."""
    marks = [index for index in mark_indices(program) if index >= position]
    return marks[0] if marks else len(program[2])


def _is_written(program, cell, start, end):
    return cell in [written_cell(item) for item in program[2][start:end]]


def _listed_before(program, position, cell):
    items = program[2]
    marks = [index for index in mark_indices(program) if index < position and cell in items[index][1]]
    return marks[-1] if marks else 0


def _is_wrong_behind_cut(program, position, cell):
    """Tell whether a cut that leads back to the position may leave the cell with another value."""
    if is_kept(program, cell):
        return _is_written(program, cell, _listed_before(program, position, cell), next_mark(program, position))
    # At the start loose cells hold nothing without cuts, too.
    if position == 0:
        return False
    mark = position - 1
    return cell not in program[2][mark][1] and _is_written(program, cell, 0, mark)


def first_facts(program):
    """Return the facts that hold by themselves, ascending."""
    kept, loose, items = program
    positions = [0] + [mark + 1 for mark in mark_indices(program)]
    wrongs = [
        (position, "wrong", cell)
        for position in positions
        for cell in range(kept + loose)
        if _is_wrong_behind_cut(program, position, cell)
    ]
    opens = [(index + 1, "open", item[1]) for index, item in enumerate(items) if item[0] == "ask"]
    return tuple(sorted(wrongs + opens))


def _cells_behind(item, word, cell):
    if item[0] == "mark" and word == "open":
        return []
    written = written_cell(item)
    cells = [] if cell == written else [cell]
    if written is not None and cell in read_cells(item) and written not in cells:
        cells.append(written)
    return sorted(cells)


def leads(program, fact):
    """Return the facts to which the fact leads, ascending."""
    position, word, cell = fact
    items = program[2]
    if position == len(items):
        return ()
    return tuple([(position + 1, word, behind) for behind in _cells_behind(items[position], word, cell)])


def _origins(program):
    """Return a dict from each fact that holds to one that leads to it, or to None for a first fact."""
    origins = {fact: None for fact in first_facts(program)}
    waiting = list(origins)
    while waiting:
        fact = waiting.pop()
        for led in leads(program, fact):
            if led not in origins:
                origins[led] = fact
                waiting.append(led)
    return origins


def facts_of(program):
    """Return the facts that hold, ascending."""
    return tuple(sorted(_origins(program)))


def lineage(program, fact):
    """Return a tuple of facts from a first fact to this one, each led to by the one before, or None."""
    origins = _origins(program)
    if fact not in origins:
        return None
    line = []
    while fact is not None:
        line.append(fact)
        fact = origins[fact]
    return tuple(line[::-1])


def is_bad(program, fact):
    """Tell whether the item at the position of the fact is a send that lists its cell."""
    position, _, cell = fact
    items = program[2]
    return position < len(items) and items[position][0] == "send" and cell in items[position][1]
