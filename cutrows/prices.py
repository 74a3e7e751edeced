"""Prices of plans, and the places of marks at the least price."""

from cutrows.errors import NotAllowed
from cutrows.places import is_allowed, is_middle, needed, places
from cutrows.programs import is_between

MOST_PRICE = 99
MOST_LEVEL = 99999
MANY_PRICES = 11
EVEN_PRICES = (1, 1, 1, 1, 1, 1, 1, 1, 1, 1, 1)
ONLY_SPLITS = (0, 1, 0, 0, 0, 0, 0, 0, 0, 0, 0)
# What the prices are for: a mark, a split, the hand, and the cells from here on.
MARK = 0
SPLIT = 1
HAND = 2
CELLS = 3


def is_price(value):
    """Tell whether the value is a price."""
    return is_between(value, 0, MOST_PRICE)


def are_prices(value):
    """Tell whether the value is prices."""
    return isinstance(value, tuple) and len(value) == MANY_PRICES and all([is_price(price) for price in value])


def _price_of_cell(program, prices, cell):
    hand = program[0] + program[1]
    return prices[HAND] if cell == hand else prices[CELLS + cell]


def _price_if_allowed(program, prices, one, two):
    if two == places(program)[-1]:
        return 0
    price = prices[MARK] + sum([_price_of_cell(program, prices, cell) for cell in needed(program, one, two)])
    return price + prices[SPLIT] if is_middle(two) else price


def price_between(program, prices, one, two):
    """Return the price of the stretch from one to two."""
    if not is_allowed(program, one, two):
        raise NotAllowed(one)
    return _price_if_allowed(program, prices, one, two)


def stretches_of(program, plan):
    """Return the stretches from 0 over the places of the plan to the end."""
    stops = (0, *plan, places(program)[-1])
    # Without items the end is at 0, and there is no stretch.
    return [(one, two) for one, two in zip(stops, stops[1:]) if one < two]


def price_of(program, prices, plan):
    """Return the price of the plan."""
    return sum([price_between(program, prices, one, two) for one, two in stretches_of(program, plan)])


def stretch_prices(program, prices):
    """Return a dict from each allowed stretch, ascending, to its price."""
    stops = places(program)
    return {
        (one, two): _price_if_allowed(program, prices, one, two)
        for one in stops
        for two in stops
        if one < two and is_allowed(program, one, two)
    }


def _reached(program, prices):
    """Return a dict from each place to its level, and the place before it on a way of this price."""
    reached = {0: (0, None)}
    # The stretch from a place to the next one is always allowed, so each place is reached, and the
    # stretches ascend, so a level is the least one when the stretches from its place come.
    for (one, two), price in stretch_prices(program, prices).items():
        level = reached[one][0] + price
        if two not in reached or level < reached[two][0]:
            reached[two] = (level, one)
    return reached


def levels(program, prices):
    """Return for each place the least price of a way of allowed stretches from 0 to it."""
    reached = _reached(program, prices)
    return tuple([reached[place][0] for place in places(program)])


def least_price(program, prices):
    """Return the least price of a plan."""
    return levels(program, prices)[-1]


def cheapest(program, prices):
    """Return a plan of the least price."""
    reached = _reached(program, prices)
    plan = []
    _, place = reached[places(program)[-1]]
    while place not in (None, 0):
        plan.append(place)
        _, place = reached[place]
    return tuple(plan[::-1])


def fewest_splits(program):
    """Return the least number of middles in a plan all of whose stretches are allowed."""
    return least_price(program, ONLY_SPLITS)
