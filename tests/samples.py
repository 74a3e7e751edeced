"""Programs and cuts for tests, the same ones each time."""

import random


def some_cells(chance, cells, fewest, most):
    many = chance.randint(min(fewest, cells), min(most, cells))
    return tuple(sorted(chance.sample(range(cells), many)))


def some_item(chance, cells):
    word = chance.choice(("do", "do", "do", "ask", "send", "send", "mark"))
    if word == "do":
        return ("do", chance.randrange(cells), some_cells(chance, cells, 0, 3))
    if word == "ask":
        return ("ask", chance.randrange(cells))
    if word == "send":
        return ("send", some_cells(chance, cells, 1, 3))
    return ("mark", some_cells(chance, cells, 0, cells))


def some_program(chance, most_items):
    kept = chance.randint(0, 4)
    loose = chance.randint(0 if kept else 1, 5)
    items = tuple(some_item(chance, kept + loose) for _ in range(chance.randint(0, most_items)))
    return (kept, loose, items)


def some_cuts(chance, program, most):
    return tuple(
        (chance.randint(0, len(program[2]) + 1), tuple(chance.randint(0, 4) for _ in range(program[0])))
        for _ in range(chance.randint(0, most))
    )


def samples(seed, many, most_items=10, most_cuts=8):
    """Yield so many pairs of a program and cuts for it."""
    chance = random.Random(seed)
    for _ in range(many):
        program = some_program(chance, most_items)
        yield program, some_cuts(chance, program, most_cuts)
