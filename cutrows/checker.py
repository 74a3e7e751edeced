"""The checker: tells the first fault of a certificate by walks over the items of the program."""

from cutrows.claims import is_claim
from cutrows.facts import first_facts, is_bad
from cutrows.faults import plain_fault, table_fault, way_fault
from cutrows.forms import are_cuts, are_facts, are_levels, are_pairs, is_count, is_plan, is_way
from cutrows.good import run_fault, same_shape
from cutrows.machines import Machine
from cutrows.places import cut_short, is_allowed, places, stretch_between
from cutrows.prices import EVEN_PRICES, price_of, stretch_prices, stretches_of
from cutrows.programs import is_index, is_kept, written_cell

FORM = ("form",)


def _is_tuple_of(value, many):
    return isinstance(value, tuple) and len(value) == many


def _cells_of(program):
    return program[0] + program[1]


def _safe_shown_fault(program, table):
    if not are_facts(table, ("open", "wrong"), (0, len(program[2])), _cells_of(program)):
        return FORM
    barred = [fact for fact in table if is_bad(program, fact)]
    return table_fault(program, table, first_facts(program), barred, "bad")


def _safe_broken_fault(program, cuts):
    if not are_cuts(cuts, program[0]):
        return FORM
    return ("good",) if run_fault(program, cuts) is None else None


def _sure_shown_fault(program, position, cell, table):
    if not are_facts(table, ("wrong",), (0, len(program[2])), _cells_of(program)):
        return FORM
    firsts = [fact for fact in first_facts(program) if fact[1] == "wrong"]
    return table_fault(program, table, firsts, [(position, "wrong", cell)], "there")


def _machine_behind(program, cuts):
    machine = Machine(program)
    for count, picks in cuts:
        machine.go(count)
        machine.cut(picks)
    return machine


def _sure_broken_fault(program, position, cell, proof):
    if not _is_tuple_of(proof, 2) or not are_cuts(proof[0], program[0]) or not is_count(proof[1]):
        return FORM
    machine = _machine_behind(program, proof[0])
    if machine.go(proof[1]) < proof[1] or machine.position() != position:
        return ("place",)
    plain = Machine(program)
    plain.go(position)
    if same_shape(machine.made(), machine.cells()[cell], plain.made(), plain.cells()[cell]):
        return ("shape",)
    return None


def _matters_shown_fault(program, position, cell, way):
    if not is_way(way, len(program[2])):
        return FORM
    return way_fault(program, position, cell, way)


def _matters_broken_fault(program, position, cell, table):
    if not are_pairs(table, (position, len(program[2])), _cells_of(program)):
        return FORM
    if (position, cell) in table:
        return ("there",)
    return plain_fault(program, position, table)


def _written_there_fault(split, start, end, plain):
    written = [written_cell(item) for item in split[2][start:end]]
    for cell in range(split[0]):
        if cell in written and (start, cell) in plain:
            return ("there", cell)
    return None


def _open_fault(split, start, end, table):
    # What happens from the end on is none of the stretch.
    short = cut_short(split, end)
    asks = [index for index in range(start, end) if split[2][index][0] == "ask"]
    firsts = [(index + 1, "open", split[2][index][1]) for index in asks]
    barred = [fact for fact in table if is_bad(short, fact)]
    return table_fault(short, table, firsts, barred, "bad")


def _allowed_shown_fault(program, one, two, proof):
    split, start, end = stretch_between(program, one, two)
    cells = _cells_of(split)
    if not _is_tuple_of(proof, 2) or not are_pairs(proof[0], (start, len(split[2])), cells):
        return FORM
    if not are_facts(proof[1], ("open",), (start + 1, end), cells):
        return FORM
    fault = _written_there_fault(split, start, end, proof[0])
    if fault is None:
        fault = plain_fault(split, start, proof[0])
    if fault is None:
        fault = _open_fault(split, start, end, proof[1])
    return fault


def _written_fault(split, start, end, item, way):
    cell = written_cell(split[2][item])
    if not start <= item < end or cell is None or not is_kept(split, cell):
        return ("written",)
    return way_fault(split, start, cell, way)


def _sent_fault(split, start, end, item, way):
    if not start <= item < end or split[2][item][0] != "ask":
        return ("sent",)
    fault = way_fault(split, item + 1, written_cell(split[2][item]), way)
    if fault is None and way[-1] >= end:
        return ("late",)
    return fault


def _allowed_broken_fault(program, one, two, proof):
    split, start, end = stretch_between(program, one, two)
    many = len(split[2])
    if not _is_tuple_of(proof, 3) or not is_index(proof[1], many) or not is_way(proof[2], many):
        return FORM
    word, item, way = proof
    if word == "written":
        return _written_fault(split, start, end, item, way)
    if word == "sent":
        return _sent_fault(split, start, end, item, way)
    return FORM


def _stretch_fault(program, plan):
    for one, two in stretches_of(program, plan):
        if not is_allowed(program, one, two):
            return ("allowed", one)
    return None


def _levels_fault(program, prices, told, last_is_right):
    stops = places(program)
    if told[0] != 0:
        return ("level", stops[0])
    if not last_is_right:
        return ("level", stops[-1])
    level_of = dict(zip(stops, told))
    for (one, two), price in stretch_prices(program, prices).items():
        if level_of[two] > level_of[one] + price:
            return ("pair", one, two)
    return None


def _price_shown_fault(program, prices, price, proof):
    if not _is_tuple_of(proof, 2) or not is_plan(program, proof[0]) or not are_levels(program, proof[1]):
        return FORM
    plan, told = proof
    fault = _stretch_fault(program, plan)
    if fault is None and price_of(program, prices, plan) != price:
        fault = ("price",)
    if fault is None:
        fault = _levels_fault(program, prices, told, told[-1] == price)
    return fault


def _less_fault(program, prices, price, plan):
    fault = _stretch_fault(program, plan)
    if fault is None and price_of(program, prices, plan) >= price:
        fault = ("price",)
    return fault


def _price_broken_fault(program, prices, price, proof):
    if not _is_tuple_of(proof, 2):
        return FORM
    word, told = proof
    if word == "less" and is_plan(program, told):
        return _less_fault(program, prices, price, told)
    if word == "more" and are_levels(program, told):
        return _levels_fault(program, prices, told, told[-1] > price)
    return FORM


def _shown_fault(program, claim, proof, prices):
    if claim[0] == "safe":
        return _safe_shown_fault(program, proof)
    if claim[0] == "sure":
        return _sure_shown_fault(program, claim[1], claim[2], proof)
    if claim[0] == "matters":
        return _matters_shown_fault(program, claim[1], claim[2], proof)
    if claim[0] == "allowed":
        return _allowed_shown_fault(program, claim[1], claim[2], proof)
    return _price_shown_fault(program, prices, claim[1], proof)


def _broken_fault(program, claim, proof, prices):
    if claim[0] == "safe":
        return _safe_broken_fault(program, proof)
    if claim[0] == "sure":
        return _sure_broken_fault(program, claim[1], claim[2], proof)
    if claim[0] == "matters":
        return _matters_broken_fault(program, claim[1], claim[2], proof)
    if claim[0] == "allowed":
        return _allowed_broken_fault(program, claim[1], claim[2], proof)
    return _price_broken_fault(program, prices, claim[1], proof)


def first_fault(program, certificate, *, prices=EVEN_PRICES):
    """Return None if the certificate is right, else its first fault."""
    if not _is_tuple_of(certificate, 3):
        return FORM
    word, claim, proof = certificate
    if not is_claim(program, claim):
        return ("claim",)
    if word == "shown":
        return _shown_fault(program, claim, proof, prices)
    if word == "broken":
        return _broken_fault(program, claim, proof, prices)
    return FORM
