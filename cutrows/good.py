"""Good runs: what each send sends first is what a run without cuts could have shown."""

from cutrows.runs import run


def made_of(made, numbers):
    """Return, ascending, all numbers of which these are made, directly or not, and these themselves."""
    found = set(numbers)
    waiting = list(numbers)
    while waiting:
        telling = made[waiting.pop()]
        for part in telling[2] if telling[0] == "do" else ():
            if part not in found:
                found.add(part)
                waiting.append(part)
    return sorted(found)


class Shapes:
    """Gives each shape a number of its own, the same one in all runs of a program."""

    def __init__(self):
        self._known = {}

    def shapes_of(self, made, numbers):
        """Return a dict from these numbers, and those of which they are made, to their shapes."""
        shapes = {}
        # A number is made of lesser ones, so their shapes are known when it comes.
        for number in made_of(made, numbers):
            shapes[number] = self._shape(made[number], shapes)
        return shapes

    def _shape(self, telling, shapes):
        if telling[0] == "do":
            key = ("do", telling[1], tuple([shapes[part] for part in telling[2]]))
        else:
            # What stands behind the first two parts is the time of an answer.
            key = telling[:2]
        return self._known.setdefault(key, len(self._known))


def same_shape(one_made, one, two_made, two):
    """Tell whether the number one of a run and the number two of a run are of one shape."""
    shapes = Shapes()
    of_one = shapes.shapes_of(one_made, (one,))
    of_two = shapes.shapes_of(two_made, (two,))
    return of_one[one] == of_two[two]


def _firsts(sendings):
    firsts = {}
    # A run comes to an item only behind all items before it, so the keys ascend.
    for item, numbers in sendings:
        if item not in firsts:
            firsts[item] = numbers
    return firsts


def first_sent(program, cuts):
    """Return a dict from each send that the run executes to the numbers that it sends first."""
    sendings, _ = run(program, cuts)
    return _firsts(sendings)


def _all_numbers(firsts):
    return [number for numbers in firsts.values() for number in numbers]


def _again_fault(sendings, firsts):
    for item, numbers in sendings:
        if numbers != firsts[item]:
            return ("again", item)
    return None


def _shape_fault(program, made, firsts):
    plain_sendings, plain_made = run(program)
    plain_firsts = _firsts(plain_sendings)
    shapes = Shapes()
    found = shapes.shapes_of(made, _all_numbers(firsts))
    right = shapes.shapes_of(plain_made, _all_numbers(plain_firsts))
    for item, numbers in plain_sendings:
        if [right[number] for number in numbers] != [found[number] for number in firsts[item]]:
            return ("shape", item)
    return None


def _answers_fault(made, firsts):
    tellings = [made[number] for number in made_of(made, _all_numbers(firsts))]
    asked = sorted([telling[1] for telling in tellings if telling[0] == "ask"])
    for one, two in zip(asked, asked[1:]):
        if one == two:
            return ("answers", one)
    return None


def run_fault(program, cuts):
    """Return None if the run with these cuts is good, else its first fault."""
    sendings, made = run(program, cuts)
    firsts = _firsts(sendings)
    fault = _again_fault(sendings, firsts)
    if fault is None:
        fault = _shape_fault(program, made, firsts)
    if fault is None:
        fault = _answers_fault(made, firsts)
    return fault
