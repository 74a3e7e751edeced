"""Programs and cuts as texts: a line for the cells and one for each item, or a line for each pair."""

from cutrows.errors import ParseError
from cutrows.forms import MOST_CUTS, is_cut
from cutrows.programs import MOST_ITEMS, are_cell_counts, is_item

FIGURES = "0123456789"


def _line(parts):
    return " ".join([str(part) for part in parts])


def _line_of_cells(kept, loose):
    return _line(("kept", kept, "loose", loose))


def _line_of_item(item):
    if item[0] in ("send", "mark"):
        return _line(item[:1] + item[1])
    if item[0] == "do" and item[2]:
        return _line(item[:2] + ("from",) + item[2])
    return _line(item[:2])


def _line_of_pair(pair):
    return _line((pair[0], "picks") + pair[1])


def _text(lines):
    return "".join([line + "\n" for line in lines])


def format_program(program):
    """Return the program as text."""
    kept, loose, items = program
    return _text([_line_of_cells(kept, loose)] + [_line_of_item(item) for item in items])


def format_cuts(cuts):
    """Return the cuts as text."""
    return _text([_line_of_pair(pair) for pair in cuts])


def _number(part):
    # No number here has more than two figures, and thousands of them are more than int takes.
    if not 1 <= len(part) <= 2 or not all([figure in FIGURES for figure in part]):
        return None
    return int(part)


def _numbers(parts, words):
    """Return the numbers that the parts tell, but for these words; None stands for a part that tells none."""
    return tuple([_number(part) for part in parts if part not in words])


# The three functions below read a line loosely at first, wherever its words stand and whatever zeros its
# numbers begin with. Then they write again what they have read: only if this is the line itself, it fits.


def _cells_of_line(line):
    numbers = _numbers(line.split(" "), ("kept", "loose"))
    if len(numbers) != 2 or not are_cell_counts(numbers[0], numbers[1]):
        return None
    return numbers if _line_of_cells(numbers[0], numbers[1]) == line else None


def _item_of_line(line, cells):
    parts = line.split(" ")
    numbers = _numbers(parts[1:], ("from",))
    if parts[0] == "do":
        item = ("do",) + numbers[:1] + (numbers[1:],)
    elif parts[0] == "ask":
        item = ("ask",) + numbers
    else:
        item = (parts[0], numbers)
    return item if is_item(item, cells) and _line_of_item(item) == line else None


def _pair_of_line(line, kept):
    numbers = _numbers(line.split(" "), ("picks",))
    pair = numbers[:1] + (numbers[1:],)
    return pair if is_cut(pair, kept) and _line_of_pair(pair) == line else None


def parse_program(text):
    """Return the program that the text tells."""
    *lines, rest = text.split("\n")
    counts = _cells_of_line(lines[0]) if lines else None
    if counts is None:
        raise ParseError(0)
    items = []
    for index, line in enumerate(lines[1:], start=1):
        item = _item_of_line(line, sum(counts))
        if item is None or index > MOST_ITEMS:
            raise ParseError(index)
        items.append(item)
    if rest != "":
        raise ParseError(len(lines))
    return (counts[0], counts[1], tuple(items))


def parse_cuts(text, kept):
    """Return the cuts that the text tells, for a program with so many kept cells."""
    *lines, rest = text.split("\n")
    pairs = []
    for index, line in enumerate(lines):
        pair = _pair_of_line(line, kept)
        if pair is None or index == MOST_CUTS:
            raise ParseError(index)
        pairs.append(pair)
    if rest != "":
        raise ParseError(len(lines))
    return tuple(pairs)
