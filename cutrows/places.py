"""Places where marks may be put, the programs that come of it, and what each mark must save."""

from cutrows.errors import TooGreat
from cutrows.matters import matters
from cutrows.programs import is_kept, read_cells, written_cell

MOST_BARE = 16
MOST_BARE_LOOSE = 4


def bare(program):
    """Return the program without its marks."""
    kept, loose, items = program
    return (kept, loose, tuple([item for item in items if item[0] != "mark"]))


def too_great(program):
    """Return the limit that the program exceeds, or None if places can be told for it."""
    if len(bare(program)[2]) > MOST_BARE:
        return MOST_BARE
    if program[1] > MOST_BARE_LOOSE:
        return MOST_BARE_LOOSE
    return None


def _require_small(program):
    limit = too_great(program)
    if limit is not None:
        raise TooGreat(limit)


def is_middle(place):
    """Tell whether the place is the middle of an item."""
    return place % 2 == 1


def places(program):
    """Return the ascending tuple of the places of the program."""
    _require_small(program)
    found = [0]
    for index, item in enumerate(bare(program)[2]):
        written = written_cell(item)
        if written in read_cells(item) and is_kept(program, written):
            found.append(2 * index + 1)
        found.append(2 * index + 2)
    return tuple(found)


def _pieces(program, some):
    """Return a list of pairs, one for each item of the split program: the item and its origin."""
    kept, loose, items = bare(program)
    hand = kept + loose
    pieces = []
    for index, item in enumerate(items):
        if 2 * index + 1 in some:
            pieces.append((("do", hand, item[2]), (index, 1)))
            pieces.append((("do", item[1], (hand,)), (index, 2)))
        else:
            pieces.append((item, (index, 0)))
    return pieces


def split_program(program, some):
    """Return the split program for some middles."""
    _require_small(program)
    items = tuple([item for item, _ in _pieces(program, some)])
    return (program[0], program[1] + 1, items)


def _planned_pieces(program, plan):
    """Return the pieces of the planned program, with the marks among them."""
    pieces = []
    before = 0
    for item, origin in _pieces(program, plan):
        place = 2 * origin[0] + (1 if origin[1] == 2 else 0)
        if place in plan:
            pieces.append((("mark", needed(program, before, place)), ("mark", place)))
            before = place
        pieces.append((item, origin))
    return pieces


def planned(program, plan):
    """Return the split program for the middles of the plan, with a mark at each of its places."""
    _require_small(program)
    items = tuple([item for item, _ in _planned_pieces(program, plan)])
    return (program[0], program[1] + 1, items)


def origins(program, plan):
    """Return for each item of the planned program where it comes from."""
    _require_small(program)
    return tuple([origin for _, origin in _planned_pieces(program, plan)])


def _position(place, some):
    """Return the position of the place in the split program for these middles."""
    return (place + 1) // 2 + len([middle for middle in some if middle < place])


def stretch_between(program, one, two):
    """Return the split program for a stretch, and the positions in it from which and to which it goes."""
    some = tuple([place for place in (one, two) if is_middle(place)])
    return split_program(program, some), _position(one, some), _position(two, some)


def _written_between(program, start, end):
    return [written_cell(item) for item in program[2][start:end]]


def needed(program, one, two):
    """Return the ascending tuple of the cells that a mark at two must save if the mark before it is at one."""
    split, start, end = stretch_between(program, one, two)
    in_stretch = _written_between(split, start, end)
    before_end = _written_between(split, 0, end)
    return tuple([
        cell for cell in matters(split, end)
        if cell in (in_stretch if is_kept(split, cell) else before_end)
    ])


def written_kept(split, start, end):
    """Return the indices of the items from start to end that write a kept cell which matters at start."""
    spoiled = [cell for cell in matters(split, start) if is_kept(split, cell)]
    return [index for index in range(start, end) if written_cell(split[2][index]) in spoiled]


def cut_short(program, end):
    """Return the program without its items from this position on."""
    return (program[0], program[1], program[2][:end])


def sent_asks(split, start, end):
    """Return the indices of the asks from start to end whose answers come to a send before end."""
    short = cut_short(split, end)
    asks = [index for index in range(start, end) if split[2][index][0] == "ask"]
    return [index for index in asks if split[2][index][1] in matters(short, index + 1)]


def is_allowed(program, one, two):
    """Tell whether the stretch from one to two is allowed."""
    split, start, end = stretch_between(program, one, two)
    return not written_kept(split, start, end) and not sent_asks(split, start, end)
