"""Programs and cuts for tests, the same ones each time."""

import itertools
import random

from replay import cell_of


def some_cells(chance, cells, fewest, most):
    many = chance.randint(min(fewest, cells), min(most, cells))
    return tuple(sorted(chance.sample(range(cells), many)))


def some_item(chance, cells):
    word = chance.choice(("do", "do", "do", "ask", "send", "send", "mark"))
    if word == "do":
        return ("do", chance.randrange(cells), some_cells(chance, cells, 0, 3))
    if word == "ask":
        return ("ask", chance.randrange(cells))
    if word == "send":
        return ("send", some_cells(chance, cells, 1, 3))
    return ("mark", some_cells(chance, cells, 0, cells))


def some_program(chance, most_items):
    kept = chance.randint(0, 4)
    loose = chance.randint(0 if kept else 1, 5)
    items = tuple(some_item(chance, kept + loose) for _ in range(chance.randint(0, most_items)))
    return (kept, loose, items)


def some_cuts(chance, program, most):
    return tuple(
        (chance.randint(0, len(program[2]) + 1), tuple(chance.randint(0, 4) for _ in range(program[0])))
        for _ in range(chance.randint(0, most))
    )


def samples(seed, many, most_items=10, most_cuts=8):
    """Yield so many pairs of a program and cuts for it."""
    chance = random.Random(seed)
    for _ in range(many):
        program = some_program(chance, most_items)
        yield program, some_cuts(chance, program, most_cuts)


def small_plan_programs(seed, many, most_items=5):
    """Yield so many programs with few places, most of which send what they have made or asked."""
    chance = random.Random(seed)
    for _ in range(many):
        kept = chance.randint(0, 2)
        loose = chance.randint(0 if kept else 1, 2)
        cells = kept + loose
        items = [some_item(chance, cells) for _ in range(chance.randint(0, most_items))]
        if kept and chance.random() < 0.7:
            cell = chance.randrange(kept)
            others = some_cells(chance, cells, 0, 2)
            items.insert(chance.randint(0, len(items)), ("do", cell, tuple(sorted({cell, *others}))))
        if chance.random() < 0.8:
            items.append(("send", some_cells(chance, cells, 1, 3)))
        yield (kept, loose, tuple(items))


def some_prices(chance):
    return tuple(chance.choice((0, 1, 2, 7, 99, chance.randint(0, 99))) for _ in range(11))


def small_programs(seed, many):
    """Yield so many programs of at most six items, each of which sends something."""
    chance = random.Random(seed)
    for _ in range(many):
        kept = chance.randint(0, 2)
        loose = chance.randint(0 if kept else 1, 2)
        items = [some_item(chance, kept + loose) for _ in range(chance.randint(1, 6))]
        items.insert(chance.randint(0, len(items)), ("send", (chance.randrange(kept + loose),)))
        yield (kept, loose, tuple(items))


def all_pairs(program):
    """Every pair of cuts for the program, but for picks beyond each list."""
    written = [cell_of(item) for item in program[2]]
    picks_of_cells = [range(written.count(cell) + 1) for cell in range(program[0])]
    for count in range(len(program[2]) + 1):
        for picks in itertools.product(*picks_of_cells):
            yield (count, picks)


def all_claims(program, prices):
    """Yield every claim that is valid for the program, and prices up to one beyond the greatest."""
    yield ("safe",)
    for position in range(len(program[2]) + 1):
        for cell in range(program[0] + program[1]):
            yield ("sure", position, cell)
            yield ("matters", position, cell)
    bare = [item for item in program[2] if item[0] != "mark"]
    if len(bare) > 16 or program[1] > 4:
        return
    stops = [
        place for place in range(2 * len(bare) + 1)
        if place % 2 == 0 or is_split(program, bare[place // 2])
    ]
    for pair in itertools.combinations(stops, 2):
        yield ("allowed", *pair)
    for price in sorted({0, 1, 2, 3, 4, 5, 8, sum(prices), 99999}):
        yield ("price", price)


def is_split(program, item):
    return item[0] == "do" and item[1] in item[2] and item[1] < program[0]
