"""Faults of tables and ways, found by walks over the items of a program."""

from cutrows.facts import leads
from cutrows.matters import cells_before
from cutrows.programs import read_cells, written_cell


def table_fault(program, table, firsts, barred, word):
    """Return the first fault of a table of facts, or None.

    firsts are the facts that it must have, ascending, barred those that it must not have, and word is
    the fault of one that it has all the same.
    """
    present = set(table)
    unwanted = set(barred)
    for fact in firsts:
        if fact not in present:
            return ("first", fact)
    for k, fact in enumerate(table):
        if fact in unwanted:
            return (word, k)
        for led in leads(program, fact):
            if led not in present:
                return ("lead", k)
    return None


def _goes_on(items, behind, index, carried, word):
    """Tell whether a way that carries the cell from the position behind may go on with the item at index."""
    if index < behind or carried in [written_cell(item) for item in items[behind:index]]:
        return False
    return items[index][0] == word and carried in read_cells(items[index])


def way_fault(program, position, cell, way):
    """Return the first fault of a way from the position for the cell, or None."""
    items = program[2]
    behind = position
    carried = cell
    for k, index in enumerate(way):
        word = "send" if k == len(way) - 1 else "do"
        if not _goes_on(items, behind, index, carried, word):
            return ("way", k)
        behind = index + 1
        carried = written_cell(items[index])
    return None


def plain_fault(program, position, table):
    """Return the fault that a plain table from the position lacks a pair, or None."""
    cells_at = [[] for _ in range(len(program[2]) + 1)]
    for at, cell in table:
        cells_at[at].append(cell)
    for at in range(len(program[2]) - 1, position - 1, -1):
        for cell in cells_before(program[2][at], cells_at[at + 1]):
            if cell not in cells_at[at]:
                return ("lack", at, cell)
    return None
