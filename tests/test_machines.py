import random
import unittest

from cutrows import machines
from cutrows.errors import InvalidPicks
from cutrows.machines import Machine
from cutrows.runs import after_cuts, run

from replay import replay
from samples import samples

SHORT = (1, 0, (("do", 0, (0,)), ("send", (0,))))
TWO = (2, 1, (("ask", 2), ("do", 0, (2,)), ("mark", (0,)), ("do", 1, (0, 2)), ("do", 0, (1,)), ("send", (0, 1))))
WRONG_PICKS = (
    (), (0,), (0, 0, 0), [0, 0], [], (0, True), (False, 0), (True, True), (0, 65), (65, 0), (-1, 0), (0, -1),
    (0, 10**29), (-10**29, 0), (0, None), (0, "0"), ("", ""), ((0,), 0), ((0, 0),), (0, [0]), ([], []), (0, {}),
    None, True, False, 0, 2, "", "00", "ab", {}, {0: 0, 1: 0}, ({}, {}), [(0, 0)],
)


def whole(machine):
    """All that a machine tells."""
    told = (machine.position(), machine.cells(), machine.left(), machine.sent(), machine.made())
    return told + (len(machine),)


def after(program, cuts, count):
    """What a machine tells when it has come so far, by the slow replay."""
    place, sent, made = replay(program, cuts, count)
    return place + (sent, made, len(program[2]) - place[0])


class TestMachine(unittest.TestCase):
    def test_the_example(self):
        machine = Machine(SHORT)
        self.assertEqual(machine.go(1), 1)
        self.assertIsNone(machine.cut((0,)))
        self.assertEqual((machine.position(), machine.cells(), len(machine)), (0, (1,), 2))

    def test_a_new_machine(self):
        made = (("nothing",), ("first", 0), ("first", 1))
        self.assertEqual(whole(Machine(TWO)), (0, (1, 2, 0), ((1,), (2,)), (), made, 6))
        self.assertEqual(whole(Machine((0, 1, ()))), (0, (0,), (), (), (("nothing",),), 0))
        self.assertEqual(whole(Machine(program=SHORT)), (0, (1,), ((1,),), (), made[:2], 2))

    def test_go_returns_how_many(self):
        machine = Machine(TWO)
        self.assertEqual([machine.go(count) for count in (0, 1, 2, 0, 2, 64, 64, 0, 1)], [0, 1, 2, 0, 2, 1, 0, 0, 0])
        self.assertEqual(whole(machine), after(TWO, (), 6))
        self.assertEqual(Machine(TWO).go(count=64), 6)
        self.assertEqual(Machine(TWO).go(200), 6)
        self.assertEqual(Machine((1, 0, ())).go(64), 0)

    def test_step_by_step(self):
        machine = Machine(TWO)
        for count in range(7):
            self.assertEqual(whole(machine), after(TWO, (), count))
            self.assertEqual(len(machine), 6 - count)
            machine.go(1)

    def test_cuts(self):
        machine = Machine(TWO)
        machine.go(2)
        machine.cut((1, 64))
        self.assertEqual(whole(machine), after(TWO, ((2, (1, 64)),), 0))
        self.assertEqual((machine.position(), machine.cells(), len(machine)), (0, (4, 2, 0), 6))
        machine.go(5)
        machine.cut(picks=(0, 0))
        self.assertEqual(whole(machine), after(TWO, ((2, (1, 64)), (5, (0, 0))), 0))
        self.assertEqual((machine.position(), len(machine)), (3, 3))
        machine.go(64)
        self.assertEqual(whole(machine), after(TWO, ((2, (1, 64)), (5, (0, 0))), 64))

    def test_a_cut_at_the_beginning_and_one_after_the_other(self):
        machine = Machine(SHORT)
        machine.cut((64,))
        self.assertEqual(whole(machine), whole(Machine(SHORT)))
        machine.go(1)
        machine.cut((1,))
        told = whole(machine)
        for pick in (0, 1, 64):
            machine.cut((pick,))
            self.assertEqual(whole(machine), told)

    def test_no_kept_cells(self):
        machine = Machine((0, 1, (("ask", 0), ("mark", ()), ("send", (0,)))))
        machine.go(3)
        machine.cut(())
        self.assertEqual(whole(machine)[:4], (2, (0,), (), ((2, (1,)),)))
        for picks in ((0,), [], None, 0, False, "", {}):
            self.assertRaises(InvalidPicks, machine.cut, picks)

    def test_what_it_told_before_stays(self):
        machine = Machine(TWO)
        machine.go(5)
        told = whole(machine)
        before = repr(told)
        machine.cut((0, 1))
        machine.go(6)
        self.assertEqual(repr(told), before)
        self.assertNotEqual(whole(machine), told)

    def test_as_run_and_after_cuts(self):
        for program, cuts in samples(31, 300, most_items=20):
            machine = Machine(program)
            for count, picks in cuts:
                machine.go(count)
                machine.cut(picks)
            for count in range(4):
                self.assertEqual((machine.position(), machine.cells(), machine.left()), after_cuts(program, cuts, count))
                machine.go(1)
            machine.go(64)
            self.assertEqual((machine.sent(), machine.made()), run(program, cuts))

    def test_as_defined(self):
        chance = random.Random(32)
        for program, cuts in samples(33, 300, most_items=7, most_cuts=5):
            machine = Machine(program)
            for at, (count, picks) in enumerate(cuts):
                first = chance.randint(0, count)
                many = machine.go(first) + machine.go(count - first)
                self.assertEqual(whole(machine), after(program, cuts[:at], count))
                self.assertEqual(many, machine.position() - after(program, cuts[:at], 0)[0])
                machine.cut(picks)
                self.assertEqual(whole(machine), after(program, cuts[: at + 1], 0))


class TestPicks(unittest.TestCase):
    def test_right_ones(self):
        for picks in ((0, 0), (64, 64), (0, 64), (1, 0)):
            machine = Machine(TWO)
            machine.go(5)
            self.assertIsNone(machine.cut(picks))
            self.assertEqual(machine.position(), 3)
        machine = Machine((4, 5, ()))
        self.assertIsNone(machine.cut((0, 1, 2, 3)))

    def test_wrong_ones(self):
        for picks in WRONG_PICKS:
            for count in (0, 4, 6):
                machine = Machine(TWO)
                machine.go(count)
                before, text = whole(machine), repr(picks)
                with self.assertRaises(InvalidPicks):
                    machine.cut(picks)
                self.assertEqual(whole(machine), before, picks)
                self.assertEqual(repr(picks), text)

    def test_a_refused_cut_leaves_what_comes(self):
        one, two = Machine(TWO), Machine(TWO)
        for count, picks in ((2, (1, 1)), (6, (0, 1)), (3, (1, 0)), (1, (0, 0))):
            one.go(count)
            two.go(count)
            for wrong in WRONG_PICKS:
                self.assertRaises(InvalidPicks, one.cut, wrong)
            one.cut(picks)
            two.cut(picks)
            self.assertEqual(whole(one), whole(two))
        one.go(64)
        two.go(64)
        self.assertEqual(whole(one), whole(two))


class TestSeveralMachines(unittest.TestCase):
    def test_two_machines_do_not_touch_each_other(self):
        one, two = Machine(TWO), Machine(TWO)
        one.go(6)
        self.assertEqual(whole(two), whole(Machine(TWO)))
        two.go(2)
        two.cut((1, 0))
        self.assertEqual(whole(one), after(TWO, (), 6))
        one.cut((0, 1))
        self.assertEqual(whole(two), after(TWO, ((2, (1, 0)),), 0))
        two.go(6)
        self.assertEqual(whole(one), after(TWO, ((6, (0, 1)),), 0))

    def test_many_in_turn(self):
        many = [(program, cuts, Machine(program)) for program, cuts in samples(34, 40, most_cuts=4)]
        for at in range(4):
            for _, cuts, machine in many:
                for count, picks in cuts[at : at + 1]:
                    machine.go(count)
                    machine.cut(picks)
        for program, cuts, machine in many:
            machine.go(64)
            self.assertEqual((machine.sent(), machine.made()), run(program, cuts))


class TestLongHistories(unittest.TestCase):
    def test_some_hundred_cuts(self):
        items = (("ask", 1), ("mark", (1,))) + (("do", 0, (0, 1)), ("send", (0, 1))) * 31
        machine = Machine((1, 1, items))
        for _ in range(500):
            machine.go(64)
            machine.cut((1,))
        self.assertEqual((machine.position(), len(machine)), (2, 62))
        self.assertEqual(len(machine.sent()), 31 * 500)
        # Each time the first do reads what it wrote the time before, so nothing comes again.
        self.assertEqual(len(machine.made()), 3 + 31 * 500)
        self.assertEqual(machine.go(64), 62)

    def test_what_comes_again_is_made_once(self):
        machine = Machine((1, 0, (("do", 0, (0,)), ("send", (0,))) * 32))
        for _ in range(300):
            machine.go(64)
            machine.cut((0,))
        self.assertEqual(len(machine.made()), 34)
        self.assertEqual(machine.sent(), run((1, 0, (("do", 0, (0,)), ("send", (0,))) * 32))[0] * 300)


class TestInterface(unittest.TestCase):
    def test_the_class_defines_its_methods_itself(self):
        self.assertEqual(Machine.__module__, machines.__name__)
        for name in ("__init__", "__len__", "go", "cut", "position", "cells", "left", "sent", "made"):
            self.assertIn(name, vars(Machine))


if __name__ == "__main__":
    unittest.main()
