"""A machine that executes a program step by step and can be cut at any time."""

from cutrows.errors import InvalidPicks
from cutrows.runs import Progress, are_picks


class Machine:
    """Executes a program, as far as it is told to go, and goes on behind the last mark when it is cut."""

    def __init__(self, program):
        self._kept = program[0]
        self._items = program[2]
        self._progress = Progress(program)

    def __len__(self):
        return len(self._items[self._progress.position():])

    def go(self, count):
        """Execute so many items, or all that remain if there are fewer; return how many."""
        before = self._progress.position()
        self._progress.advance(count)
        return self._progress.position() - before

    def cut(self, picks):
        """Cut the run; picks tells with which of its last values each kept cell is left."""
        if not are_picks(picks, self._kept):
            raise InvalidPicks()
        self._progress.cut_off(picks)

    def position(self):
        """Return after how many items the machine is."""
        return self._progress.position()

    def cells(self):
        """Return the numbers of all cells, the kept ones first."""
        return self._progress.cell_numbers()

    def left(self):
        """Return for each kept cell the numbers with which a cut may leave it."""
        return self._progress.kept_lists()

    def sent(self):
        """Return a pair (item index, numbers) for each send that was executed, in order."""
        return self._progress.sendings()

    def made(self):
        """Return for each number how it was made."""
        return self._progress.tellings()
