"""Programs and cuts for tests, the same ones each time."""

import random


def some_cells(chance, cells, fewest, most):
    many = chance.randint(min(fewest, cells), min(most, cells))
    return tuple(sorted(chance.sample(range(cells), many)))


def some_item(chance, cells):
    word = chance.choice(("do", "do", "do", "ask", "send", "send", "mark"))
    if word == "do":
        return ("do", chance.randrange(cells), some_cells(chance, cells, 0, 3))
    if word == "ask":
        return ("ask", chance.randrange(cells))
    if word == "send":
        return ("send", some_cells(chance, cells, 1, 3))
    return ("mark", some_cells(chance, cells, 0, cells))


def some_program(chance, most_items):
    kept = chance.randint(0, 4)
    loose = chance.randint(0 if kept else 1, 5)
    items = tuple(some_item(chance, kept + loose) for _ in range(chance.randint(0, most_items)))
    return (kept, loose, items)


def some_cuts(chance, program, most):
    return tuple(
        (chance.randint(0, len(program[2]) + 1), tuple(chance.randint(0, 4) for _ in range(program[0])))
        for _ in range(chance.randint(0, most))
    )


def samples(seed, many, most_items=10, most_cuts=8):
    """Yield so many pairs of a program and cuts for it."""
    chance = random.Random(seed)
    for _ in range(many):
        program = some_program(chance, most_items)
        yield program, some_cuts(chance, program, most_cuts)


def small_plan_programs(seed, many, most_items=5):
    """Yield so many programs with few places, most of which send what they have made or asked."""
    chance = random.Random(seed)
    for _ in range(many):
        kept = chance.randint(0, 2)
        loose = chance.randint(0 if kept else 1, 2)
        cells = kept + loose
        items = [some_item(chance, cells) for _ in range(chance.randint(0, most_items))]
        if kept and chance.random() < 0.7:
            cell = chance.randrange(kept)
            others = some_cells(chance, cells, 0, 2)
            items.insert(chance.randint(0, len(items)), ("do", cell, tuple(sorted({cell, *others}))))
        if chance.random() < 0.8:
            items.append(("send", some_cells(chance, cells, 1, 3)))
        yield (kept, loose, tuple(items))


def some_prices(chance):
    return tuple(chance.choice((0, 1, 2, 7, 99, chance.randint(0, 99))) for _ in range(11))
