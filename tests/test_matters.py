import copy
import unittest

from cutrows import matters as module
from cutrows.facts import facts_of, is_bad, leads
from cutrows.matters import matters, way_out

import slow_plans
from samples import samples

SHORT = (1, 0, (("do", 0, (0,)), ("send", (0,))))


class TestMatters(unittest.TestCase):
    def told(self, kept, loose, *items):
        """What matters at each position."""
        program = (kept, loose, items)
        return [matters(program, position) for position in range(len(items) + 1)]

    def test_the_example(self):
        self.assertEqual((matters(SHORT, 0), way_out(SHORT, 0, 0), matters(SHORT, 2)), ((0,), (0, 1), ()))

    def test_no_items_and_no_sends(self):
        self.assertEqual(self.told(4, 5), [()])
        self.assertEqual(self.told(1, 1, ("do", 0, (1,)), ("mark", (0, 1)), ("ask", 1)), [()] * 4)

    def test_a_send_alone(self):
        self.assertEqual(self.told(2, 2, ("send", (0, 2, 3))), [(0, 2, 3), ()])

    def test_a_write_ends_it(self):
        self.assertEqual(self.told(1, 1, ("do", 0, ()), ("send", (0,))), [(), (0,), ()])
        self.assertEqual(self.told(1, 1, ("ask", 1), ("send", (0, 1))), [(0,), (0, 1), ()])

    def test_a_do_hands_it_on(self):
        self.assertEqual(self.told(1, 2, ("do", 2, (0, 1)), ("send", (2,))), [(0, 1), (2,), ()])
        self.assertEqual(self.told(1, 2, ("do", 2, (0, 2)), ("send", (2,))), [(0, 2), (2,), ()])
        self.assertEqual(self.told(1, 2, ("do", 2, (0, 1)), ("send", (1,))), [(1,), (1,), ()])
        self.assertEqual(self.told(0, 3, ("do", 1, (0,)), ("do", 2, (1,)), ("send", (2,))), [(0,), (1,), (2,), ()])

    def test_marks_leave_it(self):
        self.assertEqual(self.told(1, 1, ("mark", ()), ("mark", (0,)), ("send", (1,))), [(1,), (1,), (1,), ()])

    def test_the_last_position(self):
        for program, _ in samples(61, 50):
            self.assertEqual(matters(program, len(program[2])), ())
            self.assertIsNone(way_out(program, len(program[2]), 0))

    def test_as_defined(self):
        for program, _ in samples(62, 400, most_items=9):
            for position in range(len(program[2]) + 1):
                self.assertEqual(matters(program=program, position=position), slow_plans.matters(program, position))

    def test_a_way_for_each_cell_that_matters_and_none_for_the_others(self):
        for program, _ in samples(63, 120, most_items=8):
            for position in range(len(program[2]) + 1):
                mattering = matters(program, position)
                for cell in range(program[0] + program[1]):
                    exists = any(True for _ in slow_plans.ways(program, position, cell))
                    self.assertIs(cell in mattering, exists, (program, position, cell))

    def test_ascending_tuples(self):
        for program, _ in samples(64, 100):
            told = matters(program, 0)
            self.assertIs(type(told), tuple)
            self.assertEqual(list(told), sorted(set(told)))

    def test_a_wrong_fact_comes_to_a_send_exactly_if_its_cell_matters(self):
        for program, _ in samples(65, 250, most_items=16):
            for fact in facts_of(program):
                if fact[1] == "wrong":
                    line, bad = [fact], False
                    while line:
                        here = line.pop()
                        bad = bad or is_bad(program, here)
                        line.extend(leads(program, here))
                    self.assertIs(bad, fact[2] in matters(program, fact[0]), (program, fact))


class TestWayOut(unittest.TestCase):
    def check(self, program):
        for position in range(len(program[2]) + 1):
            mattering = matters(program, position)
            for cell in range(program[0] + program[1]):
                way = way_out(program=program, position=position, cell=cell)
                if cell not in mattering:
                    self.assertIsNone(way, (program, position, cell))
                    continue
                self.assertIs(type(way), tuple)
                self.assertEqual(list(way), sorted(set(way)))
                self.assertTrue(slow_plans.is_way(program, position, cell, way), (program, position, cell, way))

    def test_a_send_alone(self):
        program = (0, 1, (("mark", ()), ("send", (0,)), ("do", 0, (0,)), ("mark", ())))
        self.assertEqual(way_out(program, 0, 0), (1,))
        self.assertEqual(way_out(program, 1, 0), (1,))
        self.assertIsNone(way_out(program, 2, 0))

    def test_many_items(self):
        items = tuple(("do", (at + 1) % 9, (at % 9,)) for at in range(63)) + (("send", (0,)),)
        self.assertEqual(way_out((4, 5, items), 0, 0), tuple(range(64)))
        self.assertEqual(way_out((4, 5, items), 62, 8), (62, 63))
        self.check((4, 5, items))

    def test_past_dos_that_write_what_does_not_matter(self):
        program = (0, 3, (("do", 1, (0,)), ("do", 2, (0,)), ("do", 1, ()), ("send", (2,))))
        self.assertEqual(way_out(program, 0, 0), (1, 3))
        self.check(program)

    def test_a_write_that_ends_it(self):
        self.assertIsNone(way_out((0, 2, (("ask", 0), ("send", (0,)))), 0, 0))
        self.assertIsNone(way_out((0, 2, (("do", 1, (0,)), ("do", 0, ()), ("do", 1, ()), ("send", (0, 1)))), 0, 0))

    def test_as_defined(self):
        for program, _ in samples(66, 300, most_items=14):
            self.check(program)

    def test_long_programs(self):
        for program, _ in samples(67, 8, most_items=64):
            self.check(program)

    def test_arguments_are_as_they_were_and_answers_the_same_again(self):
        for program, _ in samples(68, 50):
            before = copy.deepcopy(program)
            told = (matters(program, 0), way_out(program, 0, 0))
            self.assertEqual((matters(program, 0), way_out(program, 0, 0)), told)
            self.assertEqual(program, before)


class TestInterface(unittest.TestCase):
    def test_each_function_is_defined_in_its_file(self):
        for function in (matters, way_out):
            self.assertEqual(function.__module__, module.__name__)


if __name__ == "__main__":
    unittest.main()
