import copy
import random
import unittest

from cutrows import sessions
from cutrows.checker import first_fault
from cutrows.claims import decide, is_claim
from cutrows.errors import (
    InvalidClaim, InvalidPrices, InvalidProgram, LimitExceeded, UnknownCheckpoint, UnknownItem, UnknownPrice, UnknownRecord,
)
from cutrows.machines import Machine
from cutrows.programs import require_program
from cutrows.sessions import Session

import slow_checker
from mutants import JUNK
from samples import all_claims, small_plan_programs, some_item, some_prices

SHORT = (1, 0, (("do", 0, (0,)), ("send", (0,))))
SAFE = (1, 0, (("do", 0, ()), ("do", 0, (0,)), ("send", (0,))))
ONES = (1,) * 11
SEND = ("send", (0,))
NO_NUMBERS = (None, True, False, "", "0", (), (0,), [], [0], {}, -1, 10**29, -10**29)
NO_ITEMS = (None, 0, "do", (), [], ["ask", 0], ("ask",), ("ask", 1), ("ask", True), ("send", ()), ("do", 0, [0]), {})
NO_CLAIMS = (None, (), ("safe", 0), ["safe"], ("sure", 0, 5), ("sure", 0, True), ("price", -1), ("allowed", 2, 0), {}, "safe")


def whole(session):
    """All that a session tells."""
    told = [session.program(), session.prices(), len(session)]
    for number in range(len(session)):
        told += [session.recorded(number), session.standing(number)]
    for number in range(9):
        try:
            told.append(session.program_at(number))
        except UnknownCheckpoint:
            break
    return told


class Sessions(unittest.TestCase):
    """A base with a check that a refused call changes nothing."""

    def refused(self, session, error, values, name, *arguments, **named):
        """values: those that the error must have."""
        before = whole(session)
        given = copy.deepcopy((arguments, named))
        with self.assertRaises(error) as caught:
            getattr(session, name)(*arguments, **named)
        self.assertEqual(repr(vars(caught.exception)), repr(values), (name, arguments))
        self.assertEqual(whole(session), before, (name, arguments))
        self.assertEqual(repr((arguments, named)), repr(given))


class TestCreation(Sessions):
    def test_the_example(self):
        session = Session(SAFE)
        self.assertEqual(session.record(("safe",)), 0)
        self.assertIsNone(session.standing(0))
        self.assertIsNone(session.put_before(1, ("mark", (0,))))
        self.assertEqual(session.standing(0), ("first", (2, "wrong", 0)))

    def test_a_new_session(self):
        session = Session(SHORT)
        self.assertEqual((session.program(), session.prices(), len(session)), (SHORT, ONES, 0))
        prices = tuple(range(11))
        session = Session(prices=prices, program=SAFE)
        self.assertEqual((session.program(), session.prices(), len(session)), (SAFE, prices, 0))
        self.assertRaises(TypeError, Session, SHORT, ONES)
        self.assertRaises(TypeError, Session)

    def test_no_program(self):
        for program, index in (
            (None, None), ((), None), ([], None), ((0, 0, ()), None), ((1, 0, []), None), ((True, 0, ()), None),
            ((1, 0, (SEND,) * 65), None), ((1, 0, (None,)), 0), ((1, 0, (SEND, ("send", (True,)))), 1),
            ((1, 0, (SEND, ["send", (0,)], None)), 1), ("abc", None), ((1, 6, ()), None),
        ):
            with self.assertRaises(InvalidProgram) as caught:
                Session(program)
            self.assertIs(caught.exception.index, index)
            # It is told ahead of wrong prices.
            with self.assertRaises(InvalidProgram):
                Session(program, prices=None)

    def test_no_prices(self):
        for prices in (
            None, 1, (), [1] * 11, (1,) * 10, (1,) * 12, (1,) * 10 + (100,), (-1,) + (1,) * 10, (True,) + (1,) * 10,
            (1,) * 5 + (False,) + (1,) * 5, (None,) * 11, ("1",) * 11, ((1,),) * 11, {}, "1" * 11, (10**29,) * 11, (0,) * 19000,
        ):
            with self.assertRaises(InvalidPrices):
                Session(SHORT, prices=prices)

    def test_prices_at_the_limits(self):
        for prices in ((0,) * 11, (99,) * 11):
            self.assertEqual(Session(SHORT, prices=prices).prices(), prices)


class TestEdits(Sessions):
    def test_put(self):
        session = Session(SHORT)
        self.assertIsNone(session.put(0, ("do", 0, ())))
        self.assertEqual(session.program(), (1, 0, (("do", 0, ()), SEND)))
        session.put(2, ("ask", 0))
        self.assertEqual(session.program(), (1, 0, (("do", 0, ()), SEND, ("ask", 0))))
        session.put(item=("mark", ()), index=2)
        self.assertEqual(session.program()[2][2], ("mark", ()))
        empty = Session((1, 0, ()))
        empty.put(0, SEND)
        self.assertEqual(empty.program(), (1, 0, (SEND,)))

    def test_put_before(self):
        session = Session(SHORT)
        self.assertIsNone(session.put_before(0, ("ask", 0)))
        session.put_before(item=("mark", ()), index=2)
        self.assertEqual(session.program(), (1, 0, (("ask", 0), SHORT[2][0], ("mark", ()), SEND)))

    def test_take(self):
        session = Session(SAFE)
        self.assertIsNone(session.take(1))
        self.assertEqual(session.program(), (1, 0, (("do", 0, ()), SEND)))
        session.take(index=0)
        session.take(0)
        self.assertEqual(session.program(), (1, 0, ()))
        self.refused(session, UnknownItem, {"index": 0}, "take", 0)

    def test_unknown_items(self):
        for many in (0, 2):
            session = Session((1, 0, SHORT[2][:many]))
            for index in NO_NUMBERS + (many + 1, 65):
                for item in (SEND, None, ("ask", 9)):
                    self.refused(session, UnknownItem, {"index": index}, "put", index, item)
                    self.refused(session, UnknownItem, {"index": index}, "put_before", index, item)
                self.refused(session, UnknownItem, {"index": index}, "take", index)
            self.refused(session, UnknownItem, {"index": many}, "put_before", many, SEND)
            self.refused(session, UnknownItem, {"index": many}, "take", many)

    def test_items_that_are_none(self):
        session = Session(SAFE)
        for item in NO_ITEMS + (("ask", 10**29), ("mark", (0, 0)), [[]], "x" * 20000, ((((((0,),),),),),)):
            for index in range(4):
                self.refused(session, InvalidProgram, {"index": index}, "put", index, item)
            for index in range(3):
                self.refused(session, InvalidProgram, {"index": index}, "put_before", index, item)

    def test_sixty_four_items_and_one_more(self):
        session = Session((1, 0, (SEND,) * 63))
        session.put(63, ("mark", ()))
        self.assertEqual(len(session.program()[2]), 64)
        for item in (SEND, None):
            self.refused(session, InvalidProgram, {"index": None}, "put", 64, item)
            self.refused(session, InvalidProgram, {"index": None}, "put_before", 63, item)
        self.refused(session, UnknownItem, {"index": 65}, "put", 65, SEND)
        session.put(0, ("ask", 0))
        session.take(63)
        session.put_before(0, SEND)
        self.assertEqual(session.program(), (1, 0, (SEND, ("ask", 0)) + (SEND,) * 62))

    def test_set_price(self):
        session = Session(SHORT)
        self.assertIsNone(session.set_price(0, 99))
        session.set_price(price=0, which=10)
        session.set_price(5, 7)
        self.assertEqual(session.prices(), (99, 1, 1, 1, 1, 7, 1, 1, 1, 1, 0))

    def test_wrong_prices(self):
        session = Session(SHORT)
        for which in NO_NUMBERS + (11, 99):
            for price in (1, 100, None):
                self.refused(session, UnknownPrice, {"which": which}, "set_price", which, price)
        for price in (None, True, False, -1, 100, "1", (), (1,), [], {}, 10**29):
            self.refused(session, InvalidPrices, {}, "set_price", 0, price)


class TestCheckpoints(Sessions):
    def test_restored_any_number_of_times_and_in_any_order(self):
        session = Session(SHORT)
        self.assertEqual(session.checkpoint(), 0)
        session.put(2, ("mark", ()))
        session.set_price(0, 9)
        self.assertEqual(session.checkpoint(), 1)
        long, prices = session.program(), session.prices()
        session.take(0)
        for number in (0, 1, 1, 0, 0, 1, 0):
            self.assertIsNone(session.restore(number))
            expected = (long, prices) if number else (SHORT, ONES)
            self.assertEqual((session.program(), session.prices()), expected)
            self.assertEqual((session.program_at(0), session.program_at(number=1)), (SHORT, long))
            session.take(1)
            session.set_price(3, 50)

    def test_restoring_changes_nothing_else(self):
        session = Session(SHORT)
        session.checkpoint()
        session.record(("safe",))
        session.take(1)
        session.checkpoint()
        session.record(("safe",))
        session.restore(number=0)
        self.assertEqual(len(session), 2)
        self.assertEqual((session.standing(0), session.standing(1)), (None, ("bad", 1)))
        self.assertEqual(session.program_at(1), (1, 0, SHORT[2][:1]))
        self.assertEqual(session.checkpoint(), 2)

    def test_eight_and_a_ninth(self):
        session = Session(SHORT)
        self.assertEqual([session.checkpoint() for _ in range(8)], list(range(8)))
        self.refused(session, LimitExceeded, {"limit": 8}, "checkpoint")
        session.restore(3)
        self.refused(session, LimitExceeded, {"limit": 8}, "checkpoint")

    def test_unknown_ones(self):
        for many in (0, 1, 8):
            session = Session(SHORT)
            for _ in range(many):
                session.checkpoint()
            for number in NO_NUMBERS + (many, many + 1):
                self.refused(session, UnknownCheckpoint, {"number": number}, "restore", number)
                self.refused(session, UnknownCheckpoint, {"number": number}, "program_at", number)


class TestRecords(Sessions):
    def test_records(self):
        session = Session(SHORT, prices=(2,) * 11)
        for number, claim in enumerate((("safe",), ("price", 6), ("price", 3), ("sure", 0, 0), ("allowed", 0, 4))):
            self.assertEqual(session.record(claim=claim), number)
            self.assertEqual(session.recorded(number), decide(SHORT, claim, prices=(2,) * 11))
            self.assertIsNone(session.standing(number=number))
            self.assertEqual(len(session), number + 1)

    def test_they_fall_and_stand_again_behind_edits(self):
        session = Session((1, 1, (("do", 1, (0,)), ("mark", (1,)), ("do", 0, (1,)), SEND)))
        session.record(("safe",))
        session.record(("matters", 3, 0))
        session.record(("sure", 4, 0))
        certificates = [session.recorded(number) for number in range(3)]
        session.take(1)
        self.assertEqual(session.standing(0), ("first", (0, "wrong", 0)))
        self.assertEqual(session.standing(1), ("form",))
        self.assertEqual(session.standing(2), ("claim",))
        session.put_before(1, ("mark", (1,)))
        self.assertEqual([session.standing(number) for number in range(3)], [None] * 3)
        session.put(1, ("mark", ()))
        self.assertEqual(session.standing(0), ("first", (2, "wrong", 1)))
        session.put(1, ("mark", (0, 1)))
        self.assertEqual([session.standing(number) for number in range(3)], [None] * 3)
        self.assertEqual([session.recorded(number) for number in range(3)], certificates)

    def test_they_fall_and_stand_again_behind_prices_and_restores(self):
        session = Session(SHORT)
        session.record(("price", 3))
        session.record(("price", 4))
        session.checkpoint()
        session.set_price(1, 2)
        self.assertEqual([session.standing(0), session.standing(1)], [("price",), ("price",)])
        session.record(("price", 4))
        session.set_price(1, 1)
        self.assertEqual([session.standing(number) for number in range(3)], [None, None, ("price",)])
        session.put(1, ("mark", ()))
        self.assertEqual(session.standing(0), ("form",))
        session.restore(0)
        self.assertEqual([session.standing(number) for number in range(3)], [None, None, ("price",)])

    def test_a_claim_that_is_not_valid_any_more(self):
        session = Session((1, 4, (SEND,) * 16))
        for claim in (("price", 0), ("allowed", 0, 32), ("sure", 16, 0)):
            session.record(claim)
        session.put(16, SEND)
        self.assertEqual([session.standing(number) for number in range(3)], [("claim",), ("claim",), None])
        session.put(16, ("mark", ()))
        self.assertEqual([session.standing(number) for number in range(3)], [None] * 3)
        session.take(0)
        self.assertEqual(session.standing(1), ("claim",))

    def test_decide(self):
        session = Session(SHORT, prices=(2,) * 11)
        self.assertEqual(session.decide(claim=("price", 6))[0], "shown")
        session.set_price(0, 1)
        self.assertEqual(session.decide(("price", 6)), ("broken", ("price", 6), ("less", (1,))))
        self.assertEqual(len(session), 0)

    def test_invalid_claims(self):
        session = Session(SHORT)
        for claim in NO_CLAIMS:
            self.refused(session, InvalidClaim, {}, "decide", claim)
            self.refused(session, InvalidClaim, {}, "record", claim)

    def test_sixteen_and_a_seventeenth(self):
        session = Session(SHORT)
        self.assertEqual([session.record(("price", price)) for price in range(16)], list(range(16)))
        for claim in NO_CLAIMS + (("safe",),):
            self.refused(session, LimitExceeded, {"limit": 16}, "record", claim)
        self.assertEqual(len(session), 16)
        self.assertEqual(session.decide(("safe",))[0], "broken")

    def test_unknown_ones(self):
        for many in (0, 1, 16):
            session = Session(SHORT)
            for price in range(many):
                session.record(("price", price))
            for number in NO_NUMBERS + (many, many + 1):
                self.refused(session, UnknownRecord, {"number": number}, "recorded", number)
                self.refused(session, UnknownRecord, {"number": number}, "standing", number)


class TestMachines(Sessions):
    def test_a_new_machine_each_time(self):
        session = Session(SHORT)
        one = session.machine()
        self.assertIs(type(one), Machine)
        self.assertEqual(one.go(1), 1)
        two = session.machine()
        self.assertEqual((one.position(), two.position()), (1, 0))
        session.take(0)
        three = session.machine()
        self.assertEqual((len(one), len(two), len(three)), (1, 2, 1))
        one.cut((1,))
        one.go(2)
        self.assertEqual(one.sent(), ((1, (3,)),))


class TestHistories(Sessions):
    """Sessions go through edits, prices, checkpoints, restores and records beside a plain model of them."""

    def step(self, chance, session, model):
        kept, loose, items = model["program"]
        word = chance.choice(("put", "put_before", "take", "price", "checkpoint", "restore", "record"))
        index = chance.choice((chance.randint(0, len(items)), chance.randint(0, len(items)), chance.choice(JUNK)))
        item = some_item(chance, kept + loose + (chance.random() < 0.1))
        right = type(index) is int and 0 <= index < len(items)
        if word == "put":
            right = type(index) is int and 0 <= index <= len(items)
            self.edit(session, model, right, index, "put", (index, item), lambda: items[:index] + (item,) + items[index + 1:])
        elif word == "put_before":
            self.edit(session, model, right, index, word, (index, item), lambda: items[:index] + (item,) + items[index:])
        elif word == "take":
            self.edit(session, model, right, index, "take", (index,), lambda: items[:index] + items[index + 1:])
        elif word == "price":
            which, price = chance.randint(0, 10), chance.randint(0, 99)
            session.set_price(which, price)
            model["prices"] = model["prices"][:which] + (price,) + model["prices"][which + 1:]
        elif word == "checkpoint":
            self.keep(session, model)
        elif word == "restore" and model["kept"]:
            number = chance.randrange(len(model["kept"]))
            session.restore(number)
            model["program"], model["prices"] = model["kept"][number]
        elif word == "record":
            self.record(chance, session, model)

    def edit(self, session, model, right, index, name, arguments, outcome):
        if not right:
            self.refused(session, UnknownItem, {"index": index}, name, *arguments)
            return
        program = model["program"][:2] + (outcome(),)
        try:
            require_program(program)
        except InvalidProgram as error:
            self.refused(session, InvalidProgram, {"index": error.index}, name, *arguments)
            return
        self.assertIsNone(getattr(session, name)(*arguments))
        model["program"] = program

    def keep(self, session, model):
        if len(model["kept"]) == 8:
            self.refused(session, LimitExceeded, {"limit": 8}, "checkpoint")
            return
        self.assertEqual(session.checkpoint(), len(model["kept"]))
        model["kept"].append((model["program"], model["prices"]))

    def record(self, chance, session, model):
        claim = chance.choice(list(all_claims(model["program"], model["prices"])))
        if len(model["records"]) == 16:
            self.refused(session, LimitExceeded, {"limit": 16}, "record", claim)
            return
        self.assertEqual(session.record(claim), len(model["records"]))
        model["records"].append(decide(model["program"], claim, prices=model["prices"]))

    def compare(self, session, model):
        program, prices = model["program"], model["prices"]
        self.assertEqual((session.program(), session.prices()), (program, prices))
        self.assertEqual(len(session), len(model["records"]))
        for number, (kept, _) in enumerate(model["kept"]):
            self.assertEqual(session.program_at(number), kept)
        for number, certificate in enumerate(model["records"]):
            self.assertEqual(session.recorded(number), certificate)
            fault = session.standing(number)
            self.assertEqual(fault, first_fault(program, certificate, prices=prices))
            self.assertEqual(fault, slow_checker.first_fault(program, certificate, prices))
            if is_claim(program, certificate[1]):
                now = session.decide(certificate[1])
                self.assertIsNone(first_fault(program, now, prices=prices))
                # The other word never stands.
                self.assertTrue(fault is not None or now[0] == certificate[0], (program, prices, certificate))
            else:
                self.assertEqual(fault, ("claim",))

    def test_histories(self):
        chance = random.Random(141)
        for program in small_plan_programs(142, 25, most_items=3):
            prices = some_prices(chance)
            session = Session(program, prices=prices)
            model = {"program": program, "prices": prices, "kept": [], "records": []}
            for _ in range(40):
                self.step(chance, session, model)
                self.compare(session, model)


class TestInterface(unittest.TestCase):
    def test_the_class_is_defined_in_its_file_with_all_of_its_methods(self):
        self.assertEqual(Session.__module__, sessions.__name__)
        for name in (
            "__init__", "__len__", "program", "prices", "machine", "put", "put_before", "take", "set_price", "checkpoint",
            "restore", "program_at", "decide", "record", "recorded", "standing",
        ):
            self.assertIn(name, vars(Session))


if __name__ == "__main__":
    unittest.main()
