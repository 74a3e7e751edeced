"""A second checker, straight from the points 19 and 20: it yields faults in order, and the first one counts."""

import functools
import itertools

import slow
import slow_plans
from replay import cell_of, replay
from samples import all_claims
from slow import cells_read

FORM = ("form",)
NOTHING = (0,) * 11


def number(value, most):
    return type(value) is int and 0 <= value <= most


def many(value, count):
    return type(value) is tuple and len(value) == count


def ascending(value, legal):
    """Whether the value is an ascending tuple of some of the legal entries; repr tells True from 1."""
    legal = {repr(entry) for entry in legal}
    return type(value) is tuple and all(repr(entry) in legal for entry in value) and list(value) == sorted(set(value))


@functools.cache
def claims(program):
    return {repr(claim) for claim in all_claims(program, NOTHING) if claim[0] != "price"}


def is_small(program):
    return len(slow_plans.bare(program)[2]) <= 16 and program[1] <= 4


def is_valid(program, claim):
    if many(claim, 2) and claim[0] == "price":
        return number(claim[1], 99999) and is_small(program)
    return repr(claim) in claims(program)


@functools.cache
def table_of(program, prices):
    return slow_plans.Table(program, prices)


def cells_of(program):
    return range(program[0] + program[1])


def facts(program, words, positions):
    return list(itertools.product(positions, words, cells_of(program)))


def is_way(value, program):
    return ascending(value, range(len(program[2]))) and value != ()


def are_cuts(value, kept):
    return type(value) is tuple and len(value) <= 8 and all(
        many(pair, 2) and number(pair[0], 64) and many(pair[1], kept) and all(number(pick, 64) for pick in pair[1])
        for pair in value
    )


def table_faults(program, table, firsts, word, is_barred):
    for fact in sorted(set(firsts) - set(table)):
        yield ("first", fact)
    for k, fact in enumerate(table):
        if is_barred(fact):
            yield (word, k)
        if not set(slow.led(program, fact)) <= set(table):
            yield ("lead", k)


def way_faults(program, position, cell, way):
    items = program[2]
    carried, behind = cell, position
    for k, index in enumerate(way):
        before = [cell_of(item) for item in items[behind:index]]
        word = "send" if index == max(way) else "do"
        if index < position or carried in before or carried not in cells_read(items[index]) or items[index][0] != word:
            yield ("way", k)
        carried, behind = cell_of(items[index]), index + 1


def lack_faults(program, position, table):
    must = set()
    for p in range(position, len(program[2])):
        item = program[2][p]
        if item[0] == "send" or item[0] == "do" and (p + 1, item[1]) in table:
            must |= {(p, cell) for cell in cells_read(item)}
        must |= {(p, c) for q, c in table if q == p + 1 and c != cell_of(item)}
    for p, cell in sorted(must - set(table), key=lambda pair: (-pair[0], pair[1])):
        yield ("lack", p, cell)


def shown_safe(program, prices, table):
    if not ascending(table, facts(program, ("open", "wrong"), range(len(program[2]) + 1))):
        yield FORM
    yield from table_faults(program, table, slow.first(program), "bad", lambda fact: slow.bad(program, fact))


def broken_safe(program, prices, cuts):
    if not are_cuts(cuts, program[0]):
        yield FORM
    if slow.fault(program, cuts) is None:
        yield ("good",)


def shown_sure(program, prices, table, position, cell):
    if not ascending(table, facts(program, ("wrong",), range(len(program[2]) + 1))):
        yield FORM
    firsts = [fact for fact in slow.first(program) if fact[1] == "wrong"]
    yield from table_faults(program, table, firsts, "there", lambda fact: fact == (position, "wrong", cell))


def broken_sure(program, prices, proof, position, cell):
    if not many(proof, 2) or not are_cuts(proof[0], program[0]) or not number(proof[1], 64):
        yield FORM
    cuts, count = proof
    back = replay(program, cuts, 0)[0][0]
    if back + count != position:
        yield ("place",)
    (_, numbers, _), _, made = replay(program, cuts, count)
    (_, plain_numbers, _), _, plain_made = replay(program, (), position)
    if slow.same(made, numbers[cell], plain_made, plain_numbers[cell]):
        yield ("shape",)


def shown_matters(program, prices, way, position, cell):
    if not is_way(way, program):
        yield FORM
    yield from way_faults(program, position, cell, way)


def broken_matters(program, prices, table, position, cell):
    if not ascending(table, itertools.product(range(position, len(program[2]) + 1), cells_of(program))):
        yield FORM
    if (position, cell) in table:
        yield ("there",)
    yield from lack_faults(program, position, table)


def shown_allowed(program, prices, proof, one, two):
    split, start, end = slow_plans.stretch(program, one, two)
    if not many(proof, 2):
        yield FORM
    plain, opened = proof
    if not ascending(plain, itertools.product(range(start, len(split[2]) + 1), cells_of(split))):
        yield FORM
    if not ascending(opened, facts(split, ("open",), range(start + 1, end + 1))):
        yield FORM
    for cell in sorted(slow_plans.written(split, start, end)):
        if cell < program[0] and (start, cell) in plain:
            yield ("there", cell)
    yield from lack_faults(split, start, plain)
    asks = [index for index in range(start, end) if split[2][index][0] == "ask"]
    firsts = [(index + 1, "open", split[2][index][1]) for index in asks]
    within = (split[0], split[1], split[2][:end])
    yield from table_faults(within, opened, firsts, "bad", lambda fact: slow.bad(within, fact))


def broken_allowed(program, prices, proof, one, two):
    split, start, end = slow_plans.stretch(program, one, two)
    if not many(proof, 3) or proof[0] not in ("written", "sent"):
        yield FORM
    word, item, way = proof
    if not number(item, len(split[2]) - 1) or not is_way(way, split):
        yield FORM
    kept_writes = [index for index in range(start, end) if cell_of(split[2][index]) in range(program[0])]
    asks = [index for index in range(start, end) if split[2][index][0] == "ask"]
    if item not in (kept_writes if word == "written" else asks):
        yield (word,)
    yield from way_faults(split, start if word == "written" else item + 1, cell_of(split[2][item]), way)
    if word == "sent" and max(way) >= end:
        yield ("late",)


def plan_faults(program, prices, plan, is_right):
    table = table_of(program, prices)
    for one, two in slow_plans.stretches(program, plan):
        if not table.allowed[one, two]:
            yield ("allowed", one)
    if not is_right(table.price(plan)):
        yield ("price",)


def level_faults(program, prices, told, is_right):
    stops = slow_plans.places(program)
    if told[0] != 0:
        yield ("level", 0)
    if not is_right(told[-1]):
        yield ("level", stops[-1])
    table = table_of(program, prices)
    for (a, one), (b, two) in itertools.combinations(enumerate(stops), 2):
        if table.allowed[one, two] and told[b] > told[a] + table.prices[one, two]:
            yield ("pair", one, two)


def is_plan(program, value):
    return ascending(value, slow_plans.places(program)[1:-1])


def are_levels(program, value):
    return many(value, len(slow_plans.places(program))) and all(number(level, 99999) for level in value)


def shown_price(program, prices, proof, price):
    if not many(proof, 2) or not is_plan(program, proof[0]) or not are_levels(program, proof[1]):
        yield FORM
    yield from plan_faults(program, prices, proof[0], lambda found: found == price)
    yield from level_faults(program, prices, proof[1], lambda last: last == price)


def broken_price(program, prices, proof, price):
    if many(proof, 2) and proof[0] == "less" and is_plan(program, proof[1]):
        yield from plan_faults(program, prices, proof[1], lambda found: found < price)
    elif many(proof, 2) and proof[0] == "more" and are_levels(program, proof[1]):
        yield from level_faults(program, prices, proof[1], lambda last: last > price)
    else:
        yield FORM


def first_fault(program, certificate, prices=(1,) * 11):
    if not many(certificate, 3):
        return FORM
    word, claim, proof = certificate
    if not is_valid(program, claim):
        return ("claim",)
    if word not in ("shown", "broken"):
        return FORM
    faults = globals()[word + "_" + claim[0]](program, prices, proof, *claim[1:])
    return next(faults, None)
