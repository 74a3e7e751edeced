"""Values that are a little, or wholly, other than a right one."""

JUNK = (
    None, True, False, 0, 1, 2, 3, -1, 64, 65, 99999, 100000, 10**29, "", "safe", "sure", "matters", "allowed", "price",
    "shown", "broken", "wrong", "open", "written", "sent", "less", "more", "mark", (), (0,), (0, 0), (0, 1), [], [0], {},
    {0: 1}, ((),), ("safe",), (0, "wrong", 0), (1, "open", 0),
)


def otherwise(chance, value):
    """The value with one thing changed right in it."""
    if isinstance(value, tuple) and value and chance.random() < 0.9:
        at = chance.randrange(len(value))
        return chance.choice((
            value[:at] + value[at + 1:],
            value[:at] + value[at:at + 1] + value[at:],
            value[:at] + (chance.choice(value),) + value[at + 1:],
            value[:at] + value[at:at + 2][::-1] + value[at + 2:],
            value[:at] + (chance.choice(JUNK),) + value[at:],
            value[:at],
            list(value),
        ))
    if isinstance(value, int) and not isinstance(value, bool) and chance.random() < 0.9:
        return chance.choice((value + 1, value - 1, value + 2, value * 2, str(value), bool(value)))
    return chance.choice(JUNK)


def mutant(chance, value):
    """The value with one thing changed somewhere in it."""
    if isinstance(value, tuple) and value and chance.random() < 0.8:
        at = chance.randrange(len(value))
        return value[:at] + (mutant(chance, value[at]),) + value[at + 1:]
    return otherwise(chance, value)


def with_one_part_changed(value, change):
    """Yield the value with each of its parts (itself, too) changed in turn; change returns None to leave it."""
    changed = change(value)
    if changed is not None:
        yield changed
    if isinstance(value, tuple):
        for at, part in enumerate(value):
            for other in with_one_part_changed(part, change):
                yield value[:at] + (other,) + value[at + 1:]


def as_truth(value):
    """True in the place of 1 and False in that of 0."""
    return bool(value) if type(value) is int and value in (0, 1) else None


def as_list(value):
    return list(value) if isinstance(value, tuple) else None


def with_more_entries(chance, program, value):
    """The value with entries put into one of its tables, in their order, if it has one that is not empty."""
    if not isinstance(value, tuple) or not value:
        return value
    if all(is_entry(entry) for entry in value):
        more = [some_entry(chance, program, value[0]) for _ in range(chance.randint(1, 4))]
        return tuple(sorted({*value, *more}))
    return value[:-1] + (with_more_entries(chance, program, value[-1]),)


def is_entry(value):
    return isinstance(value, tuple) and tuple(map(type, value)) in ((int, str, int), (int, int))


def some_entry(chance, program, like):
    position = chance.randint(0, len(program[2]))
    cell = chance.randrange(program[0] + program[1])
    return (position, chance.choice(("wrong", like[1])), cell) if len(like) == 3 else (position, cell)
