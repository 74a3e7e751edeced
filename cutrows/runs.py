"""Runs of a program that is cut off and goes on behind its last mark."""

from cutrows.programs import is_between, is_kept, read_cells

MOST_PICK = 64


def are_picks(value, kept):
    """Tell whether the value is picks for a cut of a program with so many kept cells."""
    if not isinstance(value, tuple) or len(value) != kept:
        return False
    return all([is_between(pick, 0, MOST_PICK) for pick in value])


class Progress:
    """How far a run has come: where it is, what its cells hold and what it has sent."""

    def __init__(self, program):
        kept, loose, items = program
        self._program = program
        self._items = items
        self._at = 0
        self._behind_mark = 0
        self._kept_lists = [[cell + 1] for cell in range(kept)]
        self._loose_now = [0] * loose
        self._loose_saved = [0] * loose
        self._sendings = []
        self._tellings = [("nothing",)] + [("first", cell) for cell in range(kept)]
        self._done = {}
        self._times = {}

    def position(self):
        """Return after how many items the run is."""
        return self._at

    def cell_numbers(self):
        """Return the numbers of all cells, the kept ones first."""
        return tuple([numbers[-1] for numbers in self._kept_lists] + self._loose_now)

    def kept_lists(self):
        """Return the list of numbers of each kept cell, each as a tuple."""
        return tuple([tuple(numbers) for numbers in self._kept_lists])

    def sendings(self):
        """Return a pair (item index, numbers) for each send that was executed."""
        return tuple(self._sendings)

    def tellings(self):
        """Return for each number how it was made."""
        return tuple(self._tellings)

    def advance(self, count):
        """Execute the next count items, or all that remain if there are fewer."""
        last = min(self._at + count, len(self._items))
        for index in range(self._at, last):
            self._execute(index, self._items[index])
        self._at = last

    def cut_off(self, picks):
        """Leave the kept cells with the picked values, the others with the saved ones, and go back."""
        self._kept_lists = [
            [numbers[min(pick, len(numbers) - 1)]] for numbers, pick in zip(self._kept_lists, picks)
        ]
        self._loose_now = list(self._loose_saved)
        self._at = self._behind_mark

    def _execute(self, index, item):
        if item[0] == "mark":
            self._save(index, item[1])
        elif item[0] == "send":
            self._sendings.append((index, self._read(item)))
        elif item[0] == "do":
            self._write(item[1], self._do(index, self._read(item)))
        else:
            self._write(item[1], self._ask(index))

    def _save(self, index, cells):
        self._behind_mark = index + 1
        kept = len(self._kept_lists)
        # What this mark does not list is lost, even if a mark before it saved it.
        self._loose_saved = [0] * len(self._loose_now)
        for cell in cells:
            if is_kept(self._program, cell):
                self._kept_lists[cell] = self._kept_lists[cell][-1:]
            else:
                self._loose_saved[cell - kept] = self._loose_now[cell - kept]

    def _read(self, item):
        numbers = self.cell_numbers()
        return tuple([numbers[cell] for cell in read_cells(item)])

    def _write(self, cell, number):
        if is_kept(self._program, cell):
            self._kept_lists[cell].append(number)
        else:
            self._loose_now[cell - len(self._kept_lists)] = number

    def _do(self, index, numbers):
        if (index, numbers) not in self._done:
            self._done[index, numbers] = self._new_number(("do", index, numbers))
        return self._done[index, numbers]

    def _ask(self, index):
        time = self._times.get(index, 0)
        self._times[index] = time + 1
        return self._new_number(("ask", index, time))

    def _new_number(self, telling):
        self._tellings.append(telling)
        return len(self._tellings) - 1


def _behind_cuts(program, cuts):
    progress = Progress(program)
    for count, picks in cuts:
        progress.advance(count)
        progress.cut_off(picks)
    return progress


def run(program, cuts=()):
    """Return what a run with these cuts sends, and how each of its numbers was made."""
    progress = _behind_cuts(program, cuts)
    progress.advance(len(program[2]))
    return progress.sendings(), progress.tellings()


def after_cuts(program, cuts, count):
    """Return the position, the cells' numbers and the kept cells' lists, count items after all cuts."""
    progress = _behind_cuts(program, cuts)
    progress.advance(count)
    return progress.position(), progress.cell_numbers(), progress.kept_lists()
