"""What a program is, and what its items read and write."""

from cutrows.errors import InvalidProgram

MOST_KEPT = 4
MOST_LOOSE = 5
MOST_ITEMS = 64


def _is_integer(value):
    # In Python True is an int, too, but here it is not an integer.
    return isinstance(value, int) and not isinstance(value, bool)


def is_between(value, low, high):
    """Tell whether the value is an integer from low to high."""
    return _is_integer(value) and low <= value <= high


def is_index(value, many):
    """Tell whether the value is one of the numbers from 0 on, of which there are so many."""
    return is_between(value, 0, many - 1)


def is_one_of(value, numbers):
    """Tell whether the value is an integer and one of these."""
    return _is_integer(value) and value in numbers


def are_cells(value, cells, fewest, most):
    """Tell whether the value is a strictly ascending tuple of fewest to most of so many cells."""
    if not isinstance(value, tuple) or not fewest <= len(value) <= most:
        return False
    least = 0
    for cell in value:
        if not is_between(cell, least, cells - 1):
            return False
        least = cell + 1
    return True


def is_item(value, cells):
    """Tell whether the value is an item of a program with so many cells."""
    if not isinstance(value, tuple) or len(value) not in (2, 3):
        return False
    word = value[0]
    if len(value) == 3:
        return word == "do" and is_index(value[1], cells) and are_cells(value[2], cells, 0, 3)
    if word == "ask":
        return is_index(value[1], cells)
    if word == "send":
        return are_cells(value[1], cells, 1, 3)
    return word == "mark" and are_cells(value[1], cells, 0, cells)


def are_cell_counts(kept, loose):
    """Tell whether a program may have so many kept and so many loose cells."""
    return is_between(kept, 0, MOST_KEPT) and is_between(loose, 0, MOST_LOOSE) and kept + loose > 0


def _has_form(value):
    if not isinstance(value, tuple) or len(value) != 3 or not are_cell_counts(value[0], value[1]):
        return False
    return isinstance(value[2], tuple) and len(value[2]) <= MOST_ITEMS


def require_program(value):
    """Return the value if it is a program; else raise InvalidProgram(index)."""
    if not _has_form(value):
        raise InvalidProgram(None)
    kept, loose, items = value
    for index, item in enumerate(items):
        if not is_item(item, kept + loose):
            raise InvalidProgram(index)
    return value


def is_kept(program, cell):
    """Tell whether the cell of the program is a kept one."""
    return cell < program[0]


def written_cell(item):
    """Return the cell that the item writes, or None."""
    if item[0] in ("do", "ask"):
        return item[1]
    return None


def read_cells(item):
    """Return the cells that the item reads."""
    if item[0] == "do":
        return item[2]
    if item[0] == "send":
        return item[1]
    return ()


def mark_indices(program):
    """Return the ascending tuple of the indices of the marks."""
    return tuple([index for index, item in enumerate(program[2]) if item[0] == "mark"])
