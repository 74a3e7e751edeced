"""Slow second forms of the definitions 14 to 18: told by runs without cuts, and by going through everything.

A run without cuts tells of what a sent value was made, so it tells what matters: an answer that is put
into the cell comes to a send.
"""

import itertools

from cutrows.runs import run

import slow
from replay import cell_of
from slow import cells_read


def is_way(program, position, cell, way):
    """Whether the ascending way is one, straight from 14."""
    items = program[2]
    carried, behind = cell, position
    for index in way:
        last = index == way[-1]
        if index < behind or items[index][0] != ("send" if last else "do"):
            return False
        if any(cell_of(item) == carried for item in items[behind:index]) or carried not in cells_read(items[index]):
            return False
        carried, behind = cell_of(items[index]), index + 1
    return bool(way)


def ways(program, position, cell):
    """All ways; for short programs."""
    indices = range(position, len(program[2]))
    for many in range(1, len(indices) + 1):
        for way in itertools.combinations(indices, many):
            if is_way(program, position, cell, way):
                yield way


def comes_to_sends(program, position, cell):
    """The indices of the sends to which what the cell holds at the position comes."""
    kept, loose, items = program
    sent, made = run((kept, loose, items[:position] + (("ask", cell),) + items[position:]))
    mark = made.index(("ask", position, 0))
    return [
        index - 1 for index, numbers in sent
        if index > position and any(mark in slow.parts(made, number) for number in numbers)
    ]


def matters(program, position):
    return tuple(cell for cell in range(program[0] + program[1]) if comes_to_sends(program, position, cell))


def bare(program):
    return (program[0], program[1], tuple(item for item in program[2] if item[0] != "mark"))


def places(program):
    found = {0}
    for index, item in enumerate(bare(program)[2]):
        found |= {2 * index, 2 * index + 2}
        if item[0] == "do" and item[1] in item[2] and item[1] < program[0]:
            found.add(2 * index + 1)
    return tuple(sorted(found))


def laid(program, some):
    """The split program, and a dict from each place that it has to its position."""
    kept, loose, items = bare(program)
    out, at = [], {}
    for index, item in enumerate(items):
        at[2 * index] = len(out)
        if 2 * index + 1 in some:
            out.append(("do", kept + loose, item[2]))
            at[2 * index + 1] = len(out)
            out.append(("do", item[1], (kept + loose,)))
        else:
            out.append(item)
    at[2 * len(items)] = len(out)
    return (kept, loose + 1, tuple(out)), at


def stretch(program, one, two):
    """The split program of a stretch, and from which to which position it goes."""
    split, at = laid(program, {place for place in (one, two) if place % 2})
    return split, at[one], at[two]


def written(program, start, end):
    return {cell_of(item) for item in program[2][start:end]} - {None}


def needed(program, one, two):
    split, start, end = stretch(program, one, two)
    cells = []
    for cell in matters(split, end):
        if cell in written(split, start if cell < program[0] else 0, end):
            cells.append(cell)
    return tuple(cells)


def sent_within(split, start, end):
    """Pairs of an ask and a send of the stretch to which its answer comes."""
    for index in range(start, end):
        if split[2][index][0] == "ask":
            for send in comes_to_sends(split, index + 1, split[2][index][1]):
                if send < end:
                    yield index, send


def is_allowed(program, one, two):
    split, start, end = stretch(program, one, two)
    if any(cell < program[0] for cell in written(split, start, end) & set(matters(split, start))):
        return False
    return not list(sent_within(split, start, end))


def planned(program, plan):
    """The planned program and where its items come from."""
    kept, loose, items = bare(program)
    out = []
    for place in range(2 * len(items) + 1):
        if place in plan:
            before = max([0] + [other for other in plan if other < place])
            out.append((("mark", needed(program, before, place)), ("mark", place)))
        index = place // 2
        if place % 2 and place in plan:
            out.append((("do", items[index][1], (kept + loose,)), (index, 2)))
        elif place % 2 == 0 and place + 1 in plan:
            out.append((("do", kept + loose, items[index][2]), (index, 1)))
        elif place % 2 == 0 and index < len(items):
            out.append((items[index], (index, 0)))
    return (kept, loose + 1, tuple(item for item, _ in out)), tuple(origin for _, origin in out)


def stretches(program, plan):
    stops = [0] + [place for place in plan] + [2 * len(bare(program)[2])]
    return [pair for pair in zip(stops, stops[1:]) if pair[0] != pair[1]]


def plans(program):
    inner = places(program)[1:-1]
    for many in range(len(inner) + 1):
        yield from itertools.combinations(inner, many)


class Table:
    """All stretches of a program, whether they are allowed, and their prices."""

    def __init__(self, program, prices=(1,) * 11):
        self.program = program
        stops = places(program)
        self.allowed = {pair: is_allowed(program, *pair) for pair in itertools.combinations(stops, 2)}
        self.prices = {pair: self._price(prices, *pair) for pair in self.allowed}

    def _price(self, prices, one, two):
        if two == places(self.program)[-1]:
            return 0
        cells = [2 if cell == sum(self.program[:2]) else 3 + cell for cell in needed(self.program, one, two)]
        return sum(prices[which] for which in [0] + [1] * (two % 2) + cells)

    def is_right(self, plan):
        return all(self.allowed[pair] for pair in stretches(self.program, plan))

    def price(self, plan):
        return sum(self.prices[pair] for pair in stretches(self.program, plan))

    def least(self):
        return min(self.price(plan) for plan in plans(self.program) if self.is_right(plan))

    def fewest_splits(self):
        return min(sum(place % 2 for place in plan) for plan in plans(self.program) if self.is_right(plan))

    def levels(self):
        """The least prices of ways of allowed stretches to each place, over all ways."""
        stops = places(self.program)
        least = {}
        for many in range(len(stops)):
            for way in itertools.combinations(stops[1:], many):
                pairs = list(zip((0,) + way, way))
                if all(self.allowed[pair] for pair in pairs):
                    price = sum(self.prices[pair] for pair in pairs)
                    end = way[-1] if way else 0
                    least[end] = min(price, least.get(end, price))
        return tuple(least[place] for place in stops)
