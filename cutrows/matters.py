"""What matters: the cells on whose values a later send of the program depends."""

from cutrows.programs import read_cells, written_cell


def cells_before(item, behind):
    """Return, ascending, the cells that matter before the item if these matter behind it."""
    written = written_cell(item)
    before = [cell for cell in behind if cell != written]
    if item[0] == "send" or written in behind:
        before.extend(read_cells(item))
    return tuple(sorted(set(before)))


def _rows(program, position):
    """Return for each position from this one on the cells that matter there."""
    rows = [()]
    for item in reversed(program[2][position:]):
        rows.append(cells_before(item, rows[-1]))
    return rows[::-1]


def matters(program, position):
    """Return the ascending tuple of the cells that matter at the position."""
    return _rows(program, position)[0]


def way_out(program, position, cell):
    """Return a way from the position for the cell, or None if the cell does not matter there."""
    way = []
    carried = cell
    for index, behind in enumerate(_rows(program, position)[1:], start=position):
        item = program[2][index]
        written = written_cell(item)
        if item[0] == "send" and carried in item[1]:
            return (*way, index)
        if carried in read_cells(item) and written in behind:
            way.append(index)
            carried = written
        elif carried == written:
            return None
    return None


def plain_table(program, position):
    """Return the pairs of a position from this one on and a cell that matters there, ascending."""
    return tuple([
        (at, cell)
        for at, cells in enumerate(_rows(program, position), start=position)
        for cell in cells
    ])
