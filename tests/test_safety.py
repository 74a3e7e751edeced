import copy
import itertools
import random
import unittest

from cutrows import safety
from cutrows.good import run_fault
from cutrows.machines import Machine
from cutrows.safety import is_safe, spoiling

import slow
from samples import all_pairs, samples, small_programs

SHORT = (1, 0, (("do", 0, (0,)), ("send", (0,))))
DO, ASK, SEND, MARK = ("do", 0, ()), ("ask", 0), ("send", (0,)), ("mark", (0,))
SAFE = (
    (1, 0, ()),
    (0, 1, ()),
    (4, 5, ()),
    (1, 0, (DO, ("do", 0, (0,)), SEND)),
    (1, 0, (SEND,)),
    (0, 1, (SEND,)),
    (0, 1, (ASK,)),
    (0, 1, (ASK, MARK)),
    (0, 1, (ASK, MARK, SEND)),
    (0, 1, (MARK, ASK, MARK, MARK, SEND, MARK)),
    (0, 1, (ASK, ("mark", ()), DO, SEND)),
    (1, 0, (SEND, MARK, DO)),
    (1, 0, (SEND, MARK, MARK, DO, MARK, SEND)),
    (1, 0, (("mark", ()), SEND, MARK, DO, SEND)),
    (1, 1, (("do", 1, (0,)), ("mark", (1,)), ("do", 0, (1,)), SEND)),
    (1, 1, (("do", 1, (0,)), ("mark", (1,)), ("do", 0, (1,)), MARK, SEND, ("send", (0,)))),
)
UNSAFE = (
    SHORT,
    (0, 1, (ASK, SEND)),
    (1, 0, (ASK, SEND)),
    (0, 1, (ASK, ("mark", ()), SEND)),
    (0, 1, (MARK, MARK, ASK, SEND, MARK)),
    (0, 1, (DO, ("mark", ()), SEND)),
    (0, 1, (DO, MARK, ("mark", ()), SEND)),
    (1, 0, (SEND, DO)),
    (1, 0, (SEND, DO, MARK)),
    (1, 0, (DO, ("mark", ()), SEND)),
    (1, 0, (MARK, SEND, DO)),
    (1, 0, (DO, SEND, ("mark", ()), SEND)),
    (1, 1, (("do", 1, (0,)), ("do", 0, (1,)), ("mark", (0, 1)), ("send", (1,)))),
    (1, 1, (("ask", 1), ("do", 0, (1,)), ("mark", (1,)), ("send", (0, 1)))),
)


class TestSafety(unittest.TestCase):
    def check_spoiling(self, program):
        """Check the cuts of a program that is not safe."""
        before = copy.deepcopy(program)
        cuts = spoiling(program)
        self.assertEqual(program, before)
        ((count, picks),) = cuts
        self.assertEqual((type(cuts), type(cuts[0]), type(count), type(picks)), (tuple, tuple, int, tuple))
        self.assertIn(count, range(65))
        self.assertEqual(len(picks), program[0])
        self.assertTrue(all(type(pick) is int and 0 <= pick <= 64 for pick in picks))
        fault = run_fault(program, cuts)
        self.assertIsNotNone(fault, (program, cuts))
        self.assertIn(fault[0], ("again", "shape"), (program, cuts))
        return fault

    def test_the_examples(self):
        self.assertIs(is_safe(SHORT), False)
        self.assertIs(is_safe((1, 0, (("do", 0, ()), ("do", 0, (0,)), ("send", (0,))))), True)

    def test_safe_ones(self):
        for program in SAFE:
            self.assertIs(is_safe(program=program), True, program)
            self.assertIsNone(spoiling(program=program), program)
            pairs = list(all_pairs(program))
            for cuts in itertools.chain(zip(pairs), itertools.product(pairs, repeat=2)):
                self.assertIsNone(run_fault(program, cuts), (program, cuts))

    def test_unsafe_ones(self):
        for program in UNSAFE:
            self.assertIs(is_safe(program), False, program)
            self.check_spoiling(program)

    def test_each_kind_of_first_fact_spoils(self):
        kept_start = (1, 1, (("do", 1, (0,)), ("send", (1,)), DO))
        self.assertEqual(self.check_spoiling(kept_start)[1], 1)
        self.assertEqual(self.check_spoiling(SHORT)[1], 1)
        written_behind = (2, 0, (("mark", ()), SEND, ("ask", 1), DO))
        self.assertEqual(self.check_spoiling(written_behind)[1], 1)
        written_before = (2, 0, (("mark", (1,)), DO, ("mark", (1,)), SEND))
        self.assertEqual(self.check_spoiling(written_before)[1], 3)
        lost = (1, 2, (("do", 1, ()), ("mark", (0, 2)), ("do", 0, (1, 2)), SEND))
        self.assertEqual(self.check_spoiling(lost)[1], 3)
        opened = (1, 2, (("ask", 2), ("do", 1, (2,)), ("do", 2, (1,)), ("do", 0, (2,)), SEND, ("mark", ())))
        self.assertEqual(self.check_spoiling(opened), ("again", 4))

    def test_the_picked_value_is_a_wrong_one(self):
        # The list of cell 0 is its first value, two that are written over, and the right one.
        items = (DO, ("do", 0, (0,)), ("do", 0, (0,)), ("mark", ()), SEND)
        self.assertEqual(self.check_spoiling((1, 0, items))[1], 4)
        # Here the right one is the first of the list.
        self.assertEqual(self.check_spoiling((1, 0, (MARK, SEND, DO, DO, ("mark", ()))))[1], 1)
        for cell in range(4):
            items = (("do", cell, ()), ("mark", ()), ("send", (cell,)))
            self.assertEqual(self.check_spoiling((4, 0, items))[1], 2)

    def test_answers_beside_each_other_are_unsafe_by_one_pair_too(self):
        program = (1, 1, (("ask", 1), ("do", 0, (1,)), ("mark", (1,)), ("send", (0, 1))))
        self.assertEqual(run_fault(program, ((2, (1,)), (3, (0,)))), ("answers", 0))
        self.check_spoiling(program)

    def test_safe_exactly_if_no_fact_that_holds_is_bad(self):
        for program, _ in samples(51, 1000, most_items=16):
            safe = not any(slow.bad(program, fact) for fact in slow.held(program))
            self.assertIs(is_safe(program), safe, program)
            if safe:
                self.assertIsNone(spoiling(program), program)
            else:
                self.check_spoiling(program)

    def test_safe_exactly_if_the_runs_with_all_cuts_are_good(self):
        chance = random.Random(52)
        counts = {True: 0, False: 0}
        for program in small_programs(53, 500):
            safe = is_safe(program)
            counts[safe] += 1
            if not safe:
                self.check_spoiling(program)
                continue
            pairs = list(all_pairs(program))
            some = [tuple(chance.choices(pairs, k=chance.randint(2, 12))) for _ in range(40)]
            for cuts in [(pair,) for pair in pairs] + some:
                self.assertIsNone(run_fault(program, cuts), (program, cuts))
        self.assertGreater(min(counts.values()), 100)

    def test_long_programs(self):
        for program, cuts in samples(54, 150, most_items=64):
            if is_safe(program):
                self.assertIsNone(spoiling(program))
                self.assertIsNone(run_fault(program, cuts))
            else:
                self.check_spoiling(program)

    def test_sixty_four_items(self):
        rows = (("ask", 4), ("mark", (4,)), ("send", (4,)), ("do", 0, (4,)))
        program = (4, 5, rows * 16)
        self.assertIs(is_safe(program), True)
        self.assertIsNone(run_fault(program, ((33, (1, 0, 0, 0)),) * 8))
        program = (4, 5, rows * 15 + rows[:3] + (("send", (0,)),))
        self.assertIs(is_safe(program), False)
        self.check_spoiling(program)
        chain = (("ask", 4),) + tuple(("do", 4, (4,)) for _ in range(62)) + (("send", (4,)),)
        self.assertEqual(self.check_spoiling((4, 5, chain)), ("again", 63))
        self.assertIs(is_safe((4, 5, chain[:-2] + (("mark", (4,)), ("send", (4,))))), True)

    def test_a_machine_that_is_cut_often_shows_nothing_else(self):
        program = (1, 1, (("do", 1, (0,)), ("mark", (1,)), ("ask", 0), ("do", 0, (1,)), ("mark", (0,)), SEND))
        self.assertIs(is_safe(program), True)
        chance = random.Random(55)
        machine = Machine(program)
        for _ in range(300):
            machine.go(chance.randint(0, 3))
            machine.cut((chance.randint(0, 3),))
        machine.go(64)
        self.assertEqual(len(set(machine.sent())), 1)

    def test_answers_are_the_same_again(self):
        for program, _ in samples(56, 50):
            self.assertEqual((is_safe(program), spoiling(program)), (is_safe(program), spoiling(program)))


class TestInterface(unittest.TestCase):
    def test_each_function_is_defined_in_its_file(self):
        for function in (is_safe, spoiling):
            self.assertEqual(function.__module__, safety.__name__)


if __name__ == "__main__":
    unittest.main()
