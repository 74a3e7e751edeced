"""A slow second way to run a program, straight from the definitions 5 to 7.

A history is the list of all that has happened: ("item", index, number), with the number that the
item wrote (else None), and ("cut", picks). All else is told by looking back at it.
"""


def cell_of(item):
    return item[1] if item[0] in ("do", "ask") else None


def lists(program, history, event, cell):
    """Whether the event executes a mark that lists the cell; None if it executes no mark."""
    if event[0] != "item" or program[2][event[1]][0] != "mark":
        return None
    return cell in program[2][event[1]][1]


def kept_list(program, history, cell):
    numbers = [cell + 1]
    for event in history:
        if event[0] == "cut":
            numbers = [numbers[min(event[1][cell], len(numbers) - 1)]]
        elif lists(program, history, event, cell):
            numbers = [numbers[-1]]
        elif cell_of(program[2][event[1]]) == cell:
            numbers = numbers + [event[2]]
    return tuple(numbers)


def loose_number(program, history, cell):
    for at in reversed(range(len(history))):
        event = history[at]
        if event[0] == "item" and cell_of(program[2][event[1]]) == cell:
            return event[2]
        if event[0] == "cut":
            marks = [k for k in range(at) if lists(program, history, history[k], cell) is not None]
            if marks and lists(program, history, history[marks[-1]], cell):
                return loose_number(program, history[: marks[-1]], cell)
            return 0
    return 0


def numbers_now(program, history):
    kept, loose, items = program
    return tuple(
        [kept_list(program, history, cell)[-1] for cell in range(kept)]
        + [loose_number(program, history, cell) for cell in range(kept, kept + loose)]
    )


def position_now(program, history):
    cuts = [at for at, event in enumerate(history) if event[0] == "cut"]
    if not cuts:
        return len(history)
    marks = [
        event[1]
        for event in history[: cuts[-1]]
        if event[0] == "item" and program[2][event[1]][0] == "mark"
    ]
    return (marks[-1] + 1 if marks else 0) + len(history) - 1 - cuts[-1]


def execute(program, history, sent, made):
    index = position_now(program, history)
    item = program[2][index]
    numbers = numbers_now(program, history)
    number = None
    if item[0] == "send":
        sent.append((index, tuple(numbers[cell] for cell in item[1])))
    if item[0] == "do":
        told = ("do", index, tuple(numbers[cell] for cell in item[2]))
        if told not in made:
            made.append(told)
        number = made.index(told)
    if item[0] == "ask":
        made.append(("ask", index, sum(event[:2] == ("item", index) for event in history)))
        number = len(made) - 1
    history.append(("item", index, number))


def replay(program, cuts, count):
    """Return what after_cuts returns, and the two parts of what run returns, as far as it has come."""
    history, sent = [], []
    made = [("nothing",)] + [("first", cell) for cell in range(program[0])]
    for many, picks in tuple(cuts) + ((count, None),):
        for _ in range(many):
            if position_now(program, history) < len(program[2]):
                execute(program, history, sent, made)
        if picks is not None:
            history.append(("cut", picks))
    place = (
        position_now(program, history),
        numbers_now(program, history),
        tuple(kept_list(program, history, cell) for cell in range(program[0])),
    )
    return place, tuple(sent), tuple(made)
