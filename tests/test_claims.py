import copy
import itertools
import random
import unittest

from cutrows import claims
from cutrows.checker import first_fault
from cutrows.claims import decide, require_claim
from cutrows.errors import InvalidClaim
from cutrows.good import run_fault
from cutrows.runs import run

import slow
import slow_plans
from mutants import as_list, as_truth, mutant, with_one_part_changed
from replay import replay
from samples import all_claims, all_pairs, samples, small_plan_programs, small_programs, some_prices

SHORT = (1, 0, (("do", 0, (0,)), ("send", (0,))))
ONES = (1,) * 11
# Places 0, 2, 3, 4, 6, 8.
MIDDLE = (2, 1, (("ask", 2), ("do", 0, (0, 2)), ("mark", ()), ("do", 1, (0,)), ("send", (0, 1))))


class TestRequireClaim(unittest.TestCase):
    def refuse(self, program, claim):
        before = copy.deepcopy(claim)
        with self.assertRaises(InvalidClaim):
            require_claim(program, claim)
        with self.assertRaises(InvalidClaim):
            decide(program, claim)
        self.assertEqual(repr(claim), repr(before))

    def test_right_ones(self):
        for claim in (
            ("safe",), ("sure", 0, 0), ("sure", 5, 2), ("matters", 0, 2), ("matters", 5, 0), ("allowed", 0, 2),
            ("allowed", 0, 3), ("allowed", 2, 3), ("allowed", 3, 4), ("allowed", 3, 8), ("allowed", 0, 8), ("price", 0),
            ("price", 99999),
        ):
            self.assertIsNone(require_claim(MIDDLE, claim), claim)
            self.assertIsNone(require_claim(claim=claim, program=MIDDLE), claim)

    def test_wrong_ones(self):
        for claim in (
            None, True, 0, "safe", "", (), [], {}, ["safe"], ("safe", 0), ("safe", None), ("Safe",), ("",), (0,), (("safe",),),
            ("sure",), ("sure", 0), ("sure", 6, 0), ("sure", 0, 3), ("sure", -1, 0), ("sure", 0, -1), ("sure", True, 0),
            ("sure", 0, False), ("sure", "0", 0), ("sure", None, 0), ("sure", 0, 0, 0), ["sure", 0, 0], ("sure", (0, 0)),
            ("matters", 6, 0), ("matters", 0, 3), ("matters", 0, True), ("matters", False, 0), ("matters", 0),
            ("allowed",), ("allowed", 0), ("allowed", 0, 0), ("allowed", 3, 2), ("allowed", 0, 1), ("allowed", 1, 2),
            ("allowed", 0, 5), ("allowed", 5, 6), ("allowed", 0, 9), ("allowed", 0, 10), ("allowed", -2, 2),
            ("allowed", False, 2), ("allowed", 0, True), ("allowed", 0, "2"), ("allowed", 0, 2, 4), ("allowed", (0, 2)),
            ("allowed", 0, 10**29), ("price",), ("price", -1), ("price", 100000), ("price", 10**29), ("price", True),
            ("price", False), ("price", "3"), ("price", None), ("price", (3,)), ("price", 3, 3), ("price", [3]), ("other",),
            ("other", 0), ("other", 0, 0), (["safe"],), ({}, 0), ({}, 0, 0), ("shown", ("safe",), ()), ("written", 0, (0,)),
        ):
            self.refuse(MIDDLE, claim)

    def test_truths_lists_and_changes(self):
        chance = random.Random(121)
        for program in (SHORT, MIDDLE):
            valid = {repr(claim) for claim in all_claims(program, ONES)}
            for claim in all_claims(program, ONES):
                require_claim(program, claim)
                for change in (as_truth, as_list):
                    for other in with_one_part_changed(claim, change):
                        self.refuse(program, other)
                for _ in range(20):
                    other = mutant(chance, claim)
                    a_price = type(other) is tuple and len(other) == 2 and other[0] == "price" and type(other[1]) is int
                    if repr(other) in valid or a_price and 0 <= other[1] <= 99999:
                        require_claim(program, other)
                    else:
                        self.refuse(program, other)

    def test_great_and_deep_values(self):
        deep = 0
        for _ in range(38):
            deep = (deep,)
        for value in (deep, (deep,), ("sure", deep, deep), ("price", deep), (0,) * 19000, "x" * 20000, [deep] * 10):
            self.refuse(MIDDLE, value)

    def test_great_programs(self):
        many = (("do", 0, (0,)),) * 17
        for program in ((1, 0, many), (1, 5, many[:16]), (1, 5, many), (1, 5, ())):
            last = len(program[2])
            self.refuse(program, ("price", 0))
            self.refuse(program, ("allowed", 0, 2))
            for claim in (("safe",), ("sure", last, 0), ("matters", last, 0)):
                self.assertIsNone(require_claim(program, claim))
                self.assertIsNone(first_fault(program, decide(program, claim)))
        program = (4, 4, many[:16] + (("mark", ()),) * 48)
        for claim in (("price", 0), ("allowed", 0, 2), ("allowed", 31, 32), ("sure", 64, 7), ("matters", 64, 7)):
            self.assertIsNone(require_claim(program, claim))

    def test_no_items(self):
        program = (1, 1, ())
        for claim in (("safe",), ("sure", 0, 1), ("matters", 0, 0), ("price", 0), ("price", 5)):
            self.assertIsNone(require_claim(program, claim))
        self.refuse(program, ("allowed", 0, 0))
        self.refuse(program, ("allowed", 0, 2))
        self.refuse(program, ("sure", 1, 0))


class TestDecide(unittest.TestCase):
    def decided(self, program, claim, prices=ONES):
        """Return the word that decide tells, after checking the certificate."""
        told = decide(program, claim, prices=prices)
        self.assertEqual((type(told), len(told), told[1]), (tuple, 3, claim))
        self.assertIsNone(first_fault(program, told, prices=prices), (program, told, prices))
        return told[0]

    def test_the_example(self):
        self.assertEqual((decide(SHORT, ("price", 3))[0], decide(SHORT, ("allowed", 0, 4))[0]), ("shown", "broken"))

    def test_both_words_of_each_claim(self):
        safe = (1, 0, (("do", 0, ()), ("send", (0,))))
        asked = (0, 1, (("ask", 0), ("send", (0,))))
        for program, claim, word in (
            (safe, ("safe",), "shown"), (SHORT, ("safe",), "broken"), (asked, ("safe",), "broken"),
            (SHORT, ("sure", 0, 0), "broken"), (SHORT, ("sure", 2, 0), "broken"), (safe, ("sure", 0, 0), "broken"),
            (safe, ("sure", 1, 0), "shown"), (asked, ("sure", 2, 0), "shown"),
            (SHORT, ("matters", 0, 0), "shown"), (SHORT, ("matters", 2, 0), "broken"), (asked, ("matters", 0, 0), "broken"),
            (SHORT, ("allowed", 0, 1), "shown"), (SHORT, ("allowed", 0, 2), "broken"), (asked, ("allowed", 0, 4), "broken"),
            (asked, ("allowed", 2, 4), "shown"), (SHORT, ("price", 2), "broken"), (SHORT, ("price", 3), "shown"),
            (SHORT, ("price", 4), "broken"),
        ):
            self.assertEqual(self.decided(program, claim), word, (program, claim))

    def test_what_breaks_an_allowed_or_a_price(self):
        self.assertEqual(decide(SHORT, ("allowed", 0, 4))[2][0], "written")
        self.assertEqual(decide((0, 1, (("ask", 0), ("send", (0,)))), ("allowed", 0, 4))[2], ("sent", 0, (1,)))
        # The last index of the way must lie within the stretch, although there is a way beyond it.
        program = (0, 2, (("ask", 0), ("do", 1, (0,)), ("send", (1,)), ("send", (0,))))
        self.assertEqual(decide(program, ("allowed", 0, 6))[2], ("sent", 0, (1, 2)))
        self.assertEqual(decide(SHORT, ("price", 4))[2], ("less", (1,)))
        self.assertEqual(decide(SHORT, ("price", 0))[2], ("more", (0, 3, 5, 3)))

    def test_with_prices(self):
        self.assertEqual(self.decided(SHORT, ("price", 6), prices=(2,) * 11), "shown")
        self.assertEqual(self.decided(SHORT, ("price", 3), prices=(2,) * 11), "broken")
        self.assertEqual(self.decided(SHORT, ("price", 0), prices=(0,) * 11), "shown")
        self.assertEqual(decide(claim=("price", 3), prices=ONES, program=SHORT), decide(SHORT, ("price", 3)))
        self.assertRaises(TypeError, decide, SHORT, ("price", 3), ONES)

    def test_safe_is_as_the_runs_are(self):
        for program in small_programs(122, 150):
            good = all(run_fault(program, (pair,)) is None for pair in all_pairs(program))
            self.assertEqual(self.decided(program, ("safe",)), "shown" if good else "broken", program)

    def test_sure_is_as_the_runs_are(self):
        chance = random.Random(123)
        counts = {"shown": 0, "broken": 0}
        for program in small_programs(124, 120):
            pairs = list(all_pairs(program))
            cuts = [(pair,) for pair in pairs] + [tuple(chance.choices(pairs, k=chance.randint(2, 5))) for _ in range(15)]
            seen = self.places_with_another_shape(program, cuts)
            for position in range(len(program[2]) + 1):
                for cell in range(program[0] + program[1]):
                    word = self.decided(program, ("sure", position, cell))
                    self.assertEqual(word, "broken" if (position, cell) in seen else "shown", (program, position, cell))
                    counts[word] += 1
        self.assertGreater(min(counts.values()), 300)

    def places_with_another_shape(self, program, all_cuts):
        """The pairs of a position and a cell that has another shape there after some of the cuts."""
        last = len(program[2])
        plain = [replay(program, (), count)[0][1] for count in range(last + 1)]
        plain_made = run(program)[1]
        seen = set()
        for cuts in all_cuts:
            for count in range(last + 1):
                (position, numbers, _), _, made = replay(program, cuts, count)
                for cell, number in enumerate(numbers):
                    if not slow.same(made, number, plain_made, plain[position][cell]):
                        seen.add((position, cell))
                if position == last:
                    break
        return seen

    def test_matters_is_as_the_runs_are(self):
        for program, _ in samples(125, 60, most_items=8):
            for position in range(len(program[2]) + 1):
                mattering = slow_plans.matters(program, position)
                for cell in range(program[0] + program[1]):
                    word = self.decided(program, ("matters", position, cell))
                    self.assertEqual(word, "shown" if cell in mattering else "broken")

    def test_allowed_and_price_are_as_defined(self):
        chance = random.Random(126)
        for program in small_plan_programs(127, 80):
            prices = some_prices(chance)
            table = slow_plans.Table(program, prices)
            for (one, two), allowed in table.allowed.items():
                word = self.decided(program, ("allowed", one, two), prices)
                self.assertEqual(word, "shown" if allowed else "broken", (program, one, two))
            least = table.least()
            for price in {0, max(least - 1, 0), least, least + 1, least + 100, 99999}:
                word = self.decided(program, ("price", price), prices)
                self.assertEqual(word, "shown" if price == least else "broken", (program, prices, price))

    def test_long_programs(self):
        chance = random.Random(128)
        for program, _ in samples(129, 12, most_items=64):
            for claim in all_claims(program, ONES):
                if chance.random() < 0.2:
                    self.decided(program, claim)

    def test_greatest_programs(self):
        items = tuple(("do", at % 4, tuple(sorted({at % 4, 4 + at % 4, (at + 1) % 4}))) for at in range(15))
        program = (4, 4, (("mark", (0,)),) * 48 + items + (("send", (0, 1, 2)),))
        for claim in all_claims(program, (99,) * 11):
            if claim[0] not in ("matters", "sure") or claim[1] % 16 == 0:
                self.decided(program, claim, (99,) * 11)

    def test_arguments_are_as_they_were_and_answers_the_same_again(self):
        for program in small_plan_programs(130, 20):
            before = copy.deepcopy(program)
            for claim in all_claims(program, ONES):
                self.assertEqual(decide(program, claim), decide(program, claim))
            self.assertEqual(program, before)


class TestExactlyOneWord(unittest.TestCase):
    """Goes through as many certificates of the other word as there can be, or through many of them."""

    def none_is_right(self, program, word, claim, proofs, prices=ONES):
        for proof in proofs:
            self.assertIsNotNone(first_fault(program, (word, claim, proof), prices=prices), (program, word, claim, proof))

    def others(self, chance, program, claim, word):
        """Proofs of another word than the one that decide has told."""
        many, cells = len(program[2]), range(program[0] + program[1])
        cuts = [(pair,) for pair in all_pairs(program)]
        closed = [self.closed(chance, program, claim) for _ in range(10)]
        if claim[0] == "safe":
            return closed if word == "broken" else cuts
        if claim[0] == "sure":
            wrongs = [tuple(fact for fact in table if fact[1] == "wrong") for table in closed]
            return wrongs if word == "broken" else list(itertools.product(cuts + [()], range(many + 1)))
        if claim[0] == "matters":
            pairs = list(itertools.product(range(claim[1], many + 1), cells))
            tables = [tuple(sorted(chance.sample(pairs, chance.randint(0, len(pairs))))) for _ in range(20)]
            tables.append(tuple(pair for pair in pairs if pair != claim[1:]))
            ways = [way for k in range(1, many + 1) for way in itertools.combinations(range(many), k)]
            return tables if word == "shown" else ways
        split, start, end = slow_plans.stretch(program, *claim[1:])
        ways = [way for k in range(1, 4) for way in itertools.combinations(range(len(split[2])), k)]
        if word == "shown":
            return list(itertools.product(("written", "sent"), range(len(split[2])), ways))
        pairs = list(itertools.product(range(start, len(split[2]) + 1), range(split[0] + split[1])))
        opens = [(p, "open", c) for p in range(start + 1, end + 1) for c in range(split[0] + split[1])]
        written = slow_plans.written(split, start, end)
        least = tuple(pair for pair in pairs if pair[1] not in written or pair[0] > start or pair[1] >= program[0])
        plain = tuple(pair for pair in pairs if pair[1] in slow_plans.matters(split, pair[0]))
        told = [tuple(sorted(chance.sample(opens, chance.randint(0, len(opens))))) for _ in range(8)] + [tuple(opens)]
        return list(itertools.product((plain, least), told))

    def closed(self, chance, program, claim):
        """The facts that hold, with some more and all to which these lead."""
        every = list(itertools.product(range(len(program[2]) + 1), ("open", "wrong"), range(program[0] + program[1])))
        table = set(slow.held(program)) | set(chance.sample(every, min(len(every), chance.randint(0, 4))))
        while True:
            more = table | {led for fact in table for led in slow.led(program, fact)}
            if more == table:
                return tuple(sorted(table))
            table = more

    def test_the_other_word_has_none(self):
        chance = random.Random(131)
        for program in small_plan_programs(132, 60, most_items=4):
            for claim in all_claims(program, ONES):
                if claim[0] != "price":
                    word = decide(program, claim)[0]
                    other = "broken" if word == "shown" else "shown"
                    self.none_is_right(program, other, claim, self.others(chance, program, claim, word))

    def test_no_other_price_is_shown_and_the_least_one_is_not_broken(self):
        chance = random.Random(133)
        for program in small_plan_programs(134, 40, most_items=4):
            prices = some_prices(chance)
            table = slow_plans.Table(program, prices)
            least, right = table.least(), table.levels()
            plans = list(slow_plans.plans(program))
            told = [right] + [tuple(max(0, level + chance.randint(-2, 2)) for level in right) for _ in range(30)]
            self.none_is_right(program, "broken", ("price", least), [("less", plan) for plan in plans], prices)
            self.none_is_right(program, "broken", ("price", least), [("more", levels) for levels in told], prices)
            for price in {max(0, least - 1), least + 1} - {least}:
                ends = told + [levels[:-1] + (price,) for levels in told]
                self.none_is_right(program, "shown", ("price", price), itertools.product(plans, ends), prices)


class TestInterface(unittest.TestCase):
    def test_each_function_is_defined_in_its_file(self):
        for function in (require_claim, decide):
            self.assertEqual(function.__module__, claims.__name__)


if __name__ == "__main__":
    unittest.main()
