"""Slow second forms of the definitions 8, 9, 11 and 12, as they are written."""

from cutrows.runs import run

from replay import cell_of


def cells_read(item):
    return {"do": item[-1], "send": item[-1]}.get(item[0], ())


def same(one_made, one, two_made, two):
    a, b = one_made[one], two_made[two]
    if a[0] != b[0]:
        return False
    if a[0] == "do":
        pairs = list(zip(a[2], b[2], strict=True)) if a[1] == b[1] else []
        return a[1] == b[1] and all(same(one_made, x, two_made, y) for x, y in pairs)
    return a[0] == "nothing" or a[1] == b[1]


def parts(made, number):
    """The number and all of which it is made."""
    found = {number}
    if made[number][0] == "do":
        for part in made[number][2]:
            found |= parts(made, part)
    return found


def fault(program, cuts):
    sent, made = run(program, cuts)
    for at, (item, numbers) in enumerate(sent):
        before = [other for index, other in sent[:at] if index == item]
        if before and numbers != before[0]:
            return ("again", item)
    plain, plain_made = run(program)
    for item, numbers in plain:
        mine = [other for index, other in sent if index == item][0]
        if not all(same(made, x, plain_made, y) for x, y in zip(mine, numbers, strict=True)):
            return ("shape", item)
    all_parts = set().union(*(parts(made, number) for _, numbers in sent for number in numbers))
    asked = [made[number][1] for number in all_parts if made[number][0] == "ask"]
    twice = [item for item in asked if asked.count(item) > 1]
    return ("answers", min(twice)) if twice else None


def writes(program, low, high, cell):
    """Whether an item between low and high, without these, writes the cell."""
    return any(low < index < high and cell_of(item) == cell for index, item in enumerate(program[2]))


def first(program):
    kept, loose, items = program
    marks = [index for index, item in enumerate(items) if item[0] == "mark"]
    facts = {(0, "wrong", cell) for cell in range(kept) if writes(program, -1, (marks + [len(items)])[0], cell)}
    for m in marks:
        end = min([mark for mark in marks if mark > m] + [len(items)])
        for cell in range(kept):
            start = max([-1] + [mark for mark in marks if mark <= m and cell in items[mark][1]])
            if writes(program, start, end, cell):
                facts.add((m + 1, "wrong", cell))
        for cell in range(kept, kept + loose):
            if cell not in items[m][1] and writes(program, -1, m, cell):
                facts.add((m + 1, "wrong", cell))
    facts |= {(index + 1, "open", item[1]) for index, item in enumerate(items) if item[0] == "ask"}
    return tuple(sorted(facts))


def led(program, fact):
    position, word, cell = fact
    if position == len(program[2]):
        return ()
    item = program[2][position]
    cells = {cell}
    if item[0] in ("do", "ask"):
        cells.discard(item[1])
    if item[0] == "do" and cell in item[2]:
        cells.add(item[1])
    if item[0] == "mark" and word == "open":
        cells = set()
    return tuple(sorted((position + 1, word, other) for other in cells))


def held(program):
    found = set(first(program))
    while True:
        more = found | {other for fact in found for other in led(program, fact)}
        if more == found:
            return tuple(sorted(found))
        found = more


def bad(program, fact):
    position, _, cell = fact
    here = program[2][position : position + 1]
    return any(item[0] == "send" and cell in item[1] for item in here)
