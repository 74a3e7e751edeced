"""Sessions: a program and prices that are edited, with checkpoints and with records of certificates."""

from cutrows.checker import first_fault
from cutrows.claims import decide
from cutrows.errors import InvalidPrices, LimitExceeded, UnknownCheckpoint, UnknownItem, UnknownPrice, UnknownRecord
from cutrows.machines import Machine
from cutrows.prices import EVEN_PRICES, MANY_PRICES, are_prices, is_price
from cutrows.programs import is_index, require_program

MOST_CHECKPOINTS = 8
MOST_RECORDS = 16


class Session:
    """Has a program and prices, checkpoints of both, and records that stand or fall with them."""

    def __init__(self, program, *, prices=EVEN_PRICES):
        self._program = require_program(program)
        if not are_prices(prices):
            raise InvalidPrices()
        self._prices = prices
        self._checkpoints = []
        self._certificates = []

    def __len__(self):
        return len(self._certificates)

    def program(self):
        """Return the program as it is now."""
        return self._program

    def prices(self):
        """Return the prices as they are now."""
        return self._prices

    def machine(self):
        """Return a new machine of the program as it is now."""
        return Machine(self._program)

    def put(self, index, item):
        """Put an item in the place of the one with this index, or after the last one."""
        items = self._program[2]
        if not is_index(index, len(items) + 1):
            raise UnknownItem(index)
        self._set_items(items[:index] + (item,) + items[index + 1:])

    def put_before(self, index, item):
        """Put an item before the one with this index."""
        items = self._program[2]
        if not is_index(index, len(items)):
            raise UnknownItem(index)
        self._set_items(items[:index] + (item,) + items[index:])

    def take(self, index):
        """Take the item with this index away."""
        items = self._program[2]
        if not is_index(index, len(items)):
            raise UnknownItem(index)
        self._set_items(items[:index] + items[index + 1:])

    def _set_items(self, items):
        kept, loose, _ = self._program
        self._program = require_program((kept, loose, items))

    def set_price(self, which, price):
        """Set one of the prices."""
        if not is_index(which, MANY_PRICES):
            raise UnknownPrice(which)
        if not is_price(price):
            raise InvalidPrices()
        self._prices = self._prices[:which] + (price,) + self._prices[which + 1:]

    def checkpoint(self):
        """Keep the program and the prices, and return the number of this checkpoint."""
        if len(self._checkpoints) == MOST_CHECKPOINTS:
            raise LimitExceeded(MOST_CHECKPOINTS)
        self._checkpoints.append((self._program, self._prices))
        return len(self._checkpoints) - 1

    def _checkpoint_at(self, number):
        if not is_index(number, len(self._checkpoints)):
            raise UnknownCheckpoint(number)
        return self._checkpoints[number]

    def restore(self, number):
        """Bring back the program and the prices of a checkpoint."""
        self._program, self._prices = self._checkpoint_at(number)

    def program_at(self, number):
        """Return the program of a checkpoint."""
        return self._checkpoint_at(number)[0]

    def decide(self, claim):
        """Return a certificate that shows the claim or breaks it, as things are now."""
        return decide(self._program, claim, prices=self._prices)

    def record(self, claim):
        """Decide the claim, keep the certificate and return the number of this record."""
        if len(self._certificates) == MOST_RECORDS:
            raise LimitExceeded(MOST_RECORDS)
        self._certificates.append(self.decide(claim))
        return len(self._certificates) - 1

    def recorded(self, number):
        """Return the certificate of a record."""
        if not is_index(number, len(self._certificates)):
            raise UnknownRecord(number)
        return self._certificates[number]

    def standing(self, number):
        """Return None if the record stands, else the first fault of its certificate as things are now."""
        return first_fault(self._program, self.recorded(number), prices=self._prices)
