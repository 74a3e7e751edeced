"""Claims about a program and prices, and the certificates that show or break them."""

from cutrows.errors import InvalidClaim
from cutrows.facts import facts_of, lineage
from cutrows.matters import plain_table, way_out
from cutrows.places import cut_short, places, sent_asks, stretch_between, too_great, written_kept
from cutrows.prices import EVEN_PRICES, MOST_LEVEL, cheapest, levels
from cutrows.programs import is_between, is_index, is_one_of, written_cell
from cutrows.safety import cuts_for, spoiling


def _is_position_and_cell(program, position, cell):
    return is_between(position, 0, len(program[2])) and is_index(cell, program[0] + program[1])


def _is_stretch(program, one, two):
    stops = places(program)
    return is_one_of(one, stops) and is_one_of(two, stops) and one < two


def is_claim(program, value):
    """Tell whether the value is a claim that is valid for the program."""
    if not isinstance(value, tuple) or not 1 <= len(value) <= 3:
        return False
    word = value[0]
    if len(value) == 1:
        return word == "safe"
    if len(value) == 3 and word in ("sure", "matters"):
        return _is_position_and_cell(program, value[1], value[2])
    if too_great(program) is not None:
        return False
    if len(value) == 2:
        return word == "price" and is_between(value[1], 0, MOST_LEVEL)
    return word == "allowed" and _is_stretch(program, value[1], value[2])


def require_claim(program, claim):
    """Raise InvalidClaim if the value is no claim or not valid for the program."""
    if not is_claim(program, claim):
        raise InvalidClaim()


def _decide_safe(program):
    cuts = spoiling(program)
    if cuts is None:
        return "shown", facts_of(program)
    return "broken", cuts


def _decide_sure(program, position, cell):
    line = lineage(program, (position, "wrong", cell))
    if line is None:
        return "shown", tuple([fact for fact in facts_of(program) if fact[1] == "wrong"])
    first = line[0]
    # What is made of a value of another shape has another shape, too, all along the line.
    return "broken", (cuts_for(program, first), position - first[0])


def _decide_matters(program, position, cell):
    way = way_out(program, position, cell)
    if way is None:
        return "broken", plain_table(program, position)
    return "shown", way


def _open_in_stretch(split, start, end):
    """Return the open facts that hold by the asks from start to end, up to the position end."""
    facts = facts_of((split[0], split[1], split[2][start:end]))
    return tuple([(start + position, word, cell) for position, word, cell in facts if word == "open"])


def _decide_allowed(program, one, two):
    split, start, end = stretch_between(program, one, two)
    items = split[2]
    written = written_kept(split, start, end)
    if written:
        way = way_out(split, start, written_cell(items[written[0]]))
        return "broken", ("written", written[0], way)
    sent = sent_asks(split, start, end)
    if sent:
        # The way must not leave the stretch.
        way = way_out(cut_short(split, end), sent[0] + 1, written_cell(items[sent[0]]))
        return "broken", ("sent", sent[0], way)
    return "shown", (plain_table(split, start), _open_in_stretch(split, start, end))


def _decide_price(program, price, prices):
    told = levels(program, prices)
    if price < told[-1]:
        return "broken", ("more", told)
    plan = cheapest(program, prices)
    if price > told[-1]:
        return "broken", ("less", plan)
    return "shown", (plan, told)


def decide(program, claim, *, prices=EVEN_PRICES):
    """Return a certificate that shows the claim or breaks it."""
    require_claim(program, claim)
    kind = claim[0]
    if kind == "safe":
        word, proof = _decide_safe(program)
    elif kind == "sure":
        word, proof = _decide_sure(program, claim[1], claim[2])
    elif kind == "matters":
        word, proof = _decide_matters(program, claim[1], claim[2])
    elif kind == "allowed":
        word, proof = _decide_allowed(program, claim[1], claim[2])
    else:
        word, proof = _decide_price(program, claim[1], prices)
    return (word, claim, proof)
