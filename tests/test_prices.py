import copy
import itertools
import random
import unittest

from cutrows import prices as module
from cutrows.errors import NotAllowed, TooGreat
from cutrows.places import is_allowed, needed, places, planned
from cutrows.prices import cheapest, fewest_splits, least_price, levels, price_between, price_of
from cutrows.safety import is_safe

import slow_plans
from samples import small_plan_programs, some_prices

SHORT = (1, 0, (("do", 0, (0,)), ("send", (0,))))
ONES = (1,) * 11
# A mark, a split, the hand and the first cells have powers of two, so that a sum tells of what it is made.
TELLING = (1, 2, 4, 8, 16, 32, 64, 0, 0, 0, 0)
ADD = ("do", 0, (0, 1))
SEND = ("send", (0,))


def greatest(last=()):
    """Programs with as many items and places as are answered."""
    yield (4, 4, tuple(("do", at % 4, tuple(sorted({at % 4, 4 + at % 4, (at + 1) % 4}))) for at in range(15))
           + (("send", (0, 1, 2)),) + last)
    yield (4, 4, (("do", 3, (3,)),) * 16 + last)
    yield (1, 4, tuple(("ask", 1 + at % 4) for at in range(4)) + (ADD,) * 11 + (("send", (0, 3, 4)),) + last)
    yield (0, 4, tuple(("send", (at % 4,)) if at % 2 else ("ask", at // 2 % 4) for at in range(16)) + last)


class TestPriceBetween(unittest.TestCase):
    def test_a_mark_and_the_needed_cells(self):
        program = (2, 2, (("do", 0, ()), ("do", 1, ()), ("do", 2, ()), ("do", 3, ()), ("send", (0, 1)), ("send", (2, 3))))
        prices = (1, 50, 60, 2, 4, 8, 16, 70, 80, 90, 99)
        self.assertEqual(price_between(program, prices, 0, 2), 1 + 2)
        self.assertEqual(price_between(program, prices, 0, 4), 1 + 2 + 4)
        self.assertEqual(price_between(program, prices, 2, 4), 1 + 4)
        self.assertEqual(price_between(program, prices, 0, 8), 1 + 2 + 4 + 8 + 16)
        self.assertEqual(price_between(program, prices, 8, 10), 1 + 8 + 16)

    def test_a_split_and_the_hand(self):
        self.assertEqual(price_between(SHORT, TELLING, 0, 1), 1 + 2 + 4)
        self.assertEqual(price_between(SHORT, TELLING, 1, 2), 1 + 8)
        # The hand has its own price, whatever its number is.
        program = (4, 4, (("do", 3, (3, 7)), ("send", (3,))))
        self.assertEqual(price_between(program, TELLING[:10] + (99,), 0, 1), 1 + 2 + 4)
        program = (1, 0, (("send", (0,)), ("do", 0, (0,))))
        self.assertEqual(price_between(program, TELLING, 2, 3), 1 + 2)

    def test_the_last_cell(self):
        program = (4, 4, (("ask", 7), ("send", (7,))))
        self.assertEqual(price_between(program, (5,) + (0,) * 9 + (99,), 0, 2), 104)

    def test_to_the_end_nothing(self):
        self.assertEqual(price_between(SHORT, (99,) * 11, 1, 4), 0)
        self.assertEqual(price_between(SHORT, (99,) * 11, 2, 4), 0)

    def test_not_allowed(self):
        for one, two in ((0, 2), (0, 4)):
            with self.assertRaises(NotAllowed) as caught:
                price_between(SHORT, ONES, one, two)
            self.assertEqual(caught.exception.place, one)
        program = (0, 1, (SEND, ("ask", 0), SEND))
        with self.assertRaises(NotAllowed) as caught:
            price_between(program, ONES, 2, 6)
        self.assertEqual(caught.exception.place, 2)

    def test_as_defined(self):
        chance = random.Random(91)
        for program in small_plan_programs(92, 120):
            prices = some_prices(chance)
            table = slow_plans.Table(program, prices)
            for one, two in itertools.combinations(places(program), 2):
                if table.allowed[one, two]:
                    told = price_between(program=program, prices=prices, one=one, two=two)
                    self.assertEqual(told, table.prices[one, two], (program, prices, one, two))
                else:
                    with self.assertRaises(NotAllowed) as caught:
                        price_between(program, prices, one, two)
                    self.assertEqual(caught.exception.place, one)


class TestPriceOf(unittest.TestCase):
    def test_sums(self):
        self.assertEqual(price_of(SHORT, TELLING, (1,)), 1 + 2 + 4)
        self.assertEqual(price_of(SHORT, TELLING, (1, 2)), 1 + 2 + 4 + 1 + 8)
        self.assertEqual(price_of((1, 0, (SEND,)), (99,) * 11, ()), 0)

    def test_no_items(self):
        for program in ((0, 1, ()), (4, 4, (("mark", ()),))):
            self.assertEqual(price_of(program, (99,) * 11, ()), 0)

    def test_the_first_stretch_that_is_not_allowed(self):
        program = (1, 1, (ADD, SEND, ADD, ADD, SEND, ADD))
        for plan, place in (
            ((), 0), ((2,), 0), ((2, 6), 0), ((1, 2), 2), ((1, 2, 4), 4), ((1, 2, 6), 2), ((1, 4, 5, 6), 6), ((1, 8), 8),
        ):
            with self.assertRaises(NotAllowed) as caught:
                price_of(program, ONES, plan)
            self.assertEqual(caught.exception.place, place, plan)

    def test_as_defined(self):
        chance = random.Random(93)
        for program in small_plan_programs(94, 80, most_items=4):
            prices = some_prices(chance)
            table = slow_plans.Table(program, prices)
            for plan in slow_plans.plans(program):
                if table.is_right(plan):
                    self.assertEqual(price_of(program=program, prices=prices, plan=plan), table.price(plan))
                    continue
                with self.assertRaises(NotAllowed) as caught:
                    price_of(program, prices, plan)
                wrong = [one for one, two in slow_plans.stretches(program, plan) if not table.allowed[one, two]]
                self.assertEqual(caught.exception.place, wrong[0])


class TestLeast(unittest.TestCase):
    def test_the_example(self):
        self.assertEqual(least_price(SHORT, ONES), 3)
        self.assertEqual(cheapest(SHORT, ONES), (1,))
        self.assertEqual(levels(SHORT, ONES), (0, 3, 5, 3))
        self.assertEqual(fewest_splits(SHORT), 1)

    def test_no_items(self):
        for program in ((0, 1, ()), (4, 4, (("mark", ()),) * 64)):
            self.assertEqual(least_price(program, (99,) * 11), 0)
            self.assertEqual(cheapest(program, (99,) * 11), ())
            self.assertEqual(levels(program, (99,) * 11), (0,))
            self.assertEqual(fewest_splits(program), 0)

    def test_prices_of_nothing(self):
        for program in small_plan_programs(95, 50):
            self.assertEqual(least_price(program, (0,) * 11), 0)
            self.assertEqual(levels(program, (0,) * 11), (0,) * len(places(program)))
            self.check_plan(program, (0,) * 11)

    def test_what_is_cheap_depends_on_the_prices(self):
        # Behind the ask either both answers are saved, or what is made of them.
        program = (0, 3, (("ask", 0), ("ask", 1), ("do", 2, (0, 1)), ("send", (2,))))
        self.assertEqual(cheapest(program, (1, 0, 0, 1, 1, 3) + (0,) * 5), (4,))
        self.assertEqual(cheapest(program, (1, 0, 0, 2, 2, 3) + (0,) * 5), (6,))
        self.assertEqual(least_price(program, (1, 0, 0, 2, 2, 3) + (0,) * 5), 4)

    def test_splits_are_left_out_where_they_can_be(self):
        free = (1, 0, (("do", 0, ()), ("do", 0, (0,)), SEND))
        self.assertEqual(fewest_splits(free), 0)
        self.assertEqual(fewest_splits((1, 0, (("do", 0, (0,)), ("do", 0, ()), SEND))), 0)
        self.assertEqual(fewest_splits((1, 0, (("do", 0, (0,)), SEND) * 3)), 1)
        self.assertEqual(fewest_splits((2, 0, (("do", 0, (0,)), ("do", 1, (1,)), ("send", (0, 1))))), 2)
        # Here a mark before the write saves what is made in a loose cell already.
        program = (1, 1, (("do", 1, (0,)), ("do", 0, (1,)), SEND))
        self.assertEqual(fewest_splits(program), 0)
        self.assertEqual(cheapest(program, (1,) + (99,) * 10), (2,))

    def check_plan(self, program, prices):
        """Check all that can be told without going through all plans."""
        plan = cheapest(program=program, prices=prices)
        self.assertIs(type(plan), tuple)
        self.assertEqual(list(plan), sorted(set(plan)))
        self.assertLessEqual(set(plan), set(places(program)[1:-1]))
        self.assertEqual(price_of(program, prices, plan), least_price(program=program, prices=prices))
        self.assertIs(is_safe(planned(program, plan)), True, (program, prices, plan))
        told = levels(program=program, prices=prices)
        self.assertEqual((type(told), told[0], told[-1]), (tuple, 0, least_price(program, prices)))
        level = dict(zip(places(program), told, strict=True))
        reached = {0}
        for one, two in itertools.combinations(places(program), 2):
            if is_allowed(program, one, two):
                beyond = level[one] + price_between(program, prices, one, two)
                self.assertLessEqual(level[two], beyond)
                if level[two] == beyond:
                    reached.add(two)
        self.assertEqual(reached, set(places(program)))

    def test_as_defined(self):
        chance = random.Random(96)
        for program in small_plan_programs(97, 150):
            prices = some_prices(chance)
            table = slow_plans.Table(program, prices)
            self.assertEqual(least_price(program, prices), table.least(), (program, prices))
            self.assertEqual(levels(program, prices), table.levels(), (program, prices))
            self.assertEqual(fewest_splits(program=program), table.fewest_splits(), program)
            self.check_plan(program, prices)

    def test_the_plan_with_all_places_is_always_allowed(self):
        for program in small_plan_programs(98, 60, most_items=10):
            self.assertIs(is_safe(planned(program, places(program)[1:-1])), True)

    def test_greatest_programs(self):
        chance = random.Random(99)
        for program in greatest(last=(("mark", (0,)),) * 48):
            for prices in (ONES, (0,) * 11, (99,) * 11, some_prices(chance), some_prices(chance)):
                self.check_plan(program, prices)
        self.assertEqual([fewest_splits(program) for program in greatest()], [15, 0, 1, 0])

    def test_great_prices(self):
        program = next(greatest())
        told = levels(program, (99,) * 11)
        self.assertLess(max(told), 100000)
        self.assertEqual(told[-1], 99 * least_price(program, ONES))


class TestLimits(unittest.TestCase):
    def calls(self, program):
        yield lambda: price_between(program, ONES, 0, 2)
        yield lambda: price_of(program, ONES, ())
        yield lambda: least_price(program, ONES)
        yield lambda: cheapest(program, ONES)
        yield lambda: levels(program, ONES)
        yield lambda: fewest_splits(program)

    def test_too_great(self):
        # A stretch over all of these is not allowed, which comes behind the limits.
        items = (("do", 0, (0,)), SEND) * 8
        more = (("mark", ()),) * 20
        for program, limit in (
            ((4, 4, items + (SEND,)), 16), ((4, 5, items), 4), ((4, 5, items + (SEND,)), 16),
            ((1, 5, more + items), 4), ((1, 5, more + items + (SEND,)), 16), ((1, 0, more + items + (SEND,)), 16),
        ):
            for call in self.calls(program):
                with self.assertRaises(TooGreat) as caught:
                    call()
                self.assertEqual(caught.exception.limit, limit)

    def test_just_within(self):
        program = (4, 4, (SEND,) * 16 + (("mark", ()),) * 48)
        for call in self.calls(program):
            call()


class TestArguments(unittest.TestCase):
    def test_arguments_are_as_they_were_and_answers_the_same_again(self):
        for program in small_plan_programs(100, 30):
            before = copy.deepcopy(program)
            told = (levels(program, ONES), cheapest(program, ONES), least_price(program, ONES))
            self.assertEqual((levels(program, ONES), cheapest(program, ONES), least_price(program, ONES)), told)
            self.assertEqual(program, before)

    def test_needed_cells_are_paid_for(self):
        for program in small_plan_programs(101, 40):
            for one, two in itertools.combinations(places(program), 2):
                if is_allowed(program, one, two) and two != places(program)[-1]:
                    many = 1 + two % 2 + len(needed(program, one, two))
                    self.assertEqual(price_between(program, ONES, one, two), many)

    def test_each_function_is_defined_in_its_file(self):
        for function in (price_between, price_of, least_price, cheapest, levels, fewest_splits):
            self.assertEqual(function.__module__, module.__name__)


if __name__ == "__main__":
    unittest.main()
