import copy
import itertools
import unittest

from cutrows import places as module
from cutrows.errors import TooGreat
from cutrows.places import bare, is_allowed, needed, origins, places, planned, split_program
from cutrows.programs import require_program
from cutrows.runs import run
from cutrows.safety import is_safe

import slow_plans
from samples import samples, small_plan_programs

SHORT = (1, 0, (("do", 0, (0,)), ("send", (0,))))
ADD = ("do", 0, (0, 1))
SEND = ("send", (0,))
FULL = (4, 4, (("do", 0, (0, 7)),) * 15 + (("send", (0,)),))


def middles(program):
    return tuple(place for place in places(program) if place % 2)


class TestBare(unittest.TestCase):
    def test_without_marks(self):
        self.assertEqual(bare((1, 1, (("mark", ()), ADD, ("mark", (0,)), ("mark", (1,)), SEND))), (1, 1, (ADD, SEND)))
        self.assertEqual(bare((0, 1, (("mark", ()),) * 64)), (0, 1, ()))
        self.assertEqual(bare(program=SHORT), SHORT)

    def test_of_any_size(self):
        self.assertEqual(bare((4, 5, (ADD,) * 64)), (4, 5, (ADD,) * 64))
        for program, _ in samples(71, 60, most_items=64):
            self.assertEqual(bare(program), slow_plans.bare(program))


class TestPlaces(unittest.TestCase):
    def test_the_example(self):
        self.assertEqual(places(SHORT), (0, 1, 2, 4))
        self.assertEqual(planned(SHORT, (1,))[2], (("do", 1, (0,)), ("mark", (1,)), ("do", 0, (1,)), ("send", (0,))))
        self.assertEqual(origins(SHORT, (1,)), ((0, 1), ("mark", 1), (0, 2), (1, 0)))

    def test_no_items(self):
        for program in ((1, 0, ()), (0, 4, (("mark", ()),) * 48)):
            self.assertEqual(places(program), (0,))
            self.assertEqual(split_program(program, ()), (program[0], program[1] + 1, ()))
            self.assertEqual(planned(program, ()), (program[0], program[1] + 1, ()))
            self.assertEqual(origins(program, ()), ())

    def test_middles_are_of_dos_that_read_the_kept_cell_that_they_write(self):
        for item, has in (
            (("do", 0, (0,)), True), (("do", 1, (0, 1, 2)), True), (("do", 0, (1, 2)), False), (("do", 0, ()), False),
            (("do", 2, (2,)), False), (("do", 2, (0,)), False), (("ask", 0), False), (("send", (0, 1)), False),
        ):
            expected = (0, 1, 2) if has else (0, 2)
            self.assertEqual(places((2, 1, (item,))), expected, item)
            self.assertEqual(places((2, 1, (("mark", ()), item, ("mark", (0,))))), expected, item)

    def test_marks_are_not_counted(self):
        mark = ("mark", (0,))
        program = (1, 1, (mark, ADD, mark, mark, SEND, ADD, mark))
        self.assertEqual(places(program), (0, 1, 2, 4, 5, 6))
        self.assertEqual(planned(program, (4, 5)), planned(bare(program), (4, 5)))

    def test_thirty_three_places(self):
        program = (4, 4, (("do", 3, (3,)),) * 16 + (("mark", ()),) * 48)
        self.assertEqual(places(program), tuple(range(33)))
        whole = planned(program, tuple(range(1, 32)))
        self.assertEqual(len(whole[2]), 63)
        self.assertIs(require_program(whole), whole)

    def test_as_defined(self):
        for program, _ in samples(72, 300, most_items=16):
            if program[1] <= 4:
                self.assertEqual(places(program=program), slow_plans.places(program))


class TestSplitPrograms(unittest.TestCase):
    def test_the_hand_is_there_without_middles_too(self):
        self.assertEqual(split_program(SHORT, ()), (1, 1, SHORT[2]))
        self.assertEqual(split_program((4, 4, (SEND, ("mark", ()))), ()), (4, 5, (SEND,)))

    def test_two_of_three(self):
        program = (2, 1, (("do", 0, (0, 2)), ("do", 1, (0, 1)), ("mark", ()), ("do", 0, (0, 1, 2)), SEND))
        self.assertEqual(split_program(program, (1, 5))[2], (
            ("do", 3, (0, 2)), ("do", 0, (3,)), ("do", 1, (0, 1)), ("do", 3, (0, 1, 2)), ("do", 0, (3,)), SEND,
        ))

    def test_as_defined(self):
        for program in small_plan_programs(73, 120):
            for many in range(len(middles(program)) + 1):
                for some in itertools.combinations(middles(program), many):
                    told = split_program(program=program, some=some)
                    self.assertEqual(told, slow_plans.laid(program, some)[0])
                    self.assertIs(require_program(told), told)

    def test_it_sends_the_same_without_cuts(self):
        for program in small_plan_programs(74, 80):
            plain = [len(numbers) for _, numbers in run(program)[0]]
            self.assertEqual([len(numbers) for _, numbers in run(split_program(program, middles(program)))[0]], plain)


class TestNeeded(unittest.TestCase):
    def test_the_examples(self):
        self.assertEqual(needed(SHORT, 0, 1), (1,))
        self.assertIs(is_allowed(SHORT, 0, 1), True)
        self.assertIs(is_allowed(SHORT, 0, 4), False)

    def test_at_the_end_nothing(self):
        for program in small_plan_programs(75, 60):
            stops = places(program)
            for one in stops[:-1]:
                self.assertEqual(needed(program, one, stops[-1]), ())

    def test_a_kept_cell_that_is_written_before_one_and_not_after_it(self):
        program = (2, 1, (("do", 0, ()), ("do", 1, ()), ("send", (0, 1))))
        self.assertEqual(needed(program, 0, 4), (0, 1))
        self.assertEqual(needed(program, 2, 4), (1,))
        self.assertEqual(needed(program, 0, 2), (0,))

    def test_a_loose_cell_that_is_written_before_one_and_not_after_it(self):
        program = (0, 2, (("do", 0, ()), ("do", 1, ()), ("send", (0, 1))))
        self.assertEqual(needed(program, 0, 4), (0, 1))
        self.assertEqual(needed(program, 2, 4), (0, 1))
        self.assertEqual(needed(program, 0, 2), (0,))

    def test_a_cell_that_is_not_written(self):
        program = (1, 1, (("send", (0,)), ("send", (0, 1))))
        self.assertEqual(needed(program, 0, 2), ())

    def test_a_cell_that_does_not_matter(self):
        program = (1, 1, (("do", 0, ()), ("ask", 1), ("do", 0, ()), ("send", (0,))))
        self.assertEqual(needed(program, 0, 2), ())
        self.assertEqual(needed(program, 0, 4), ())
        self.assertEqual(needed(program, 0, 6), (0,))

    def test_the_hand(self):
        program = (2, 1, (("do", 0, (0,)), ("do", 1, (0, 1)), ("send", (1,))))
        self.assertEqual(needed(program, 0, 3), (3,))
        self.assertEqual(needed(program, 1, 3), (3,))
        # The item that is split has not written its cell at its middle, and the cell does not matter there.
        self.assertEqual(needed((1, 0, (("do", 0, (0,)), SEND, SEND)), 1, 4), (0,))
        # Where nothing comes of it, the hand does not matter.
        self.assertEqual(needed((1, 0, (("send", (0,)), ("do", 0, (0,)))), 0, 3), ())

    def test_as_defined(self):
        for program in small_plan_programs(76, 200):
            for one, two in itertools.combinations(places(program), 2):
                told = needed(program=program, one=one, two=two)
                self.assertIs(type(told), tuple)
                self.assertEqual(told, slow_plans.needed(program, one, two), (program, one, two))


class TestAllowed(unittest.TestCase):
    def check(self, program, **expected):
        """expected: the stretches, as s0_4=True, and whether they are allowed."""
        for word, allowed in expected.items():
            one, two = map(int, word[1:].split("_"))
            self.assertIs(is_allowed(program, one, two), allowed, (program, word))

    def test_a_do_that_reads_the_kept_cell_that_it_writes(self):
        at_the_beginning = (1, 1, (ADD, ("do", 1, ()), SEND))
        self.check(at_the_beginning, s0_1=True, s0_2=False, s1_2=True, s1_6=True, s0_6=False, s2_6=True)
        at_the_end = (1, 1, (SEND, ADD))
        self.check(at_the_end, s0_2=True, s0_3=True, s0_4=False, s2_4=True, s3_4=True)
        beside_others = (2, 1, (ADD, ("do", 0, (0, 2)), ("do", 1, (0, 1)), ("send", (0, 1))))
        self.check(beside_others, s0_1=True, s1_2=True, s1_3=True, s2_3=True, s3_4=True, s3_5=True, s3_6=False, s5_8=True)

    def test_both_places_are_middles(self):
        self.check((2, 0, (("do", 0, (0,)), ("do", 1, (1,)), ("send", (0, 1)))), s1_3=True, s0_3=False)
        # From the middle on, the cell itself does not matter until it is written.
        self.check((1, 0, (("do", 0, (0,)), ("do", 0, (0,)), SEND)), s1_3=True, s1_4=True, s2_4=False)
        three = (2, 0, (("do", 0, (0,)), ("do", 1, (1,)), ("do", 0, (0,)), ("send", (0, 1))))
        self.check(three, s1_3=True, s3_5=True, s1_5=False, s3_6=False)

    def test_a_kept_cell_that_matters_and_is_written(self):
        self.check((1, 1, (SEND, ("do", 0, ()))), s0_2=True, s0_4=False, s2_4=True)
        self.check((1, 1, (("do", 0, ()), SEND)), s0_2=True, s0_4=True)
        self.check((1, 1, (SEND, ("ask", 0), ("do", 0, ()))), s0_2=True, s0_4=False, s0_6=False, s2_6=True)
        self.check((0, 1, (SEND, ("do", 0, ()))), s0_4=True)

    def test_answers_sent_within_the_stretch_and_behind_it(self):
        program = (0, 2, (("ask", 0), ("do", 1, (0,)), ("send", (1,)), ("send", (0,))))
        self.check(program, s0_2=True, s0_4=True, s0_6=False, s2_8=True, s0_8=False)
        self.check((0, 1, (("ask", 0), ("do", 0, ()), SEND)), s0_6=True)
        self.check((1, 0, (("ask", 0), SEND)), s0_2=True, s0_4=False, s2_4=True)
        self.check((0, 1, (SEND, ("ask", 0))), s0_4=True)

    def test_an_answer_that_comes_to_a_send_over_a_split(self):
        program = (1, 1, (("ask", 1), ADD, SEND))
        self.check(program, s0_3=True, s2_6=False, s3_6=True, s0_6=False)

    def test_each_stretch_to_the_next_place_is_allowed(self):
        for program in small_plan_programs(77, 150, most_items=10):
            for one, two in zip(places(program), places(program)[1:]):
                self.assertIs(is_allowed(program, one, two), True, (program, one, two))

    def test_as_defined(self):
        for program in small_plan_programs(78, 200):
            for one, two in itertools.combinations(places(program), 2):
                told = is_allowed(program=program, one=one, two=two)
                self.assertIs(told, slow_plans.is_allowed(program, one, two), (program, one, two))


class TestPlanned(unittest.TestCase):
    def test_middles_as_the_first_and_as_the_last_place(self):
        program = (2, 0, (("do", 0, (0,)), ("send", (0,)), ("do", 1, (1,)), ("send", (0, 1))))
        self.assertEqual(planned(program, (1, 5)), (2, 1, (
            ("do", 2, (0,)), ("mark", (2,)), ("do", 0, (2,)), ("send", (0,)),
            ("do", 2, (1,)), ("mark", (0, 2)), ("do", 1, (2,)), ("send", (0, 1)),
        )))
        self.assertEqual(
            origins(program, (1, 5)),
            ((0, 1), ("mark", 1), (0, 2), (1, 0), (2, 1), ("mark", 5), (2, 2), (3, 0)),
        )

    def test_marks_beside_a_split(self):
        self.assertEqual(origins(SHORT, (1, 2)), ((0, 1), ("mark", 1), (0, 2), ("mark", 2), (1, 0)))
        program = (1, 0, (SEND, ("do", 0, (0,))))
        self.assertEqual(origins(program, (2, 3)), ((0, 0), ("mark", 2), (1, 1), ("mark", 3), (1, 2)))
        self.assertEqual(planned(program, (2, 3))[2][1], ("mark", ()))

    def test_the_plan_without_places(self):
        self.assertEqual(planned(SHORT, ()), (1, 1, SHORT[2]))
        self.assertEqual(origins(SHORT, ()), ((0, 0), (1, 0)))

    def test_marks_of_the_program_itself_are_gone(self):
        program = (1, 0, (("mark", (0,)), ("mark", (0,)), SEND, ("mark", ()), SEND, ("mark", ())))
        self.assertEqual(planned(program, (2,))[2], (SEND, ("mark", ()), SEND))
        self.assertEqual(origins(program, (2,)), ((0, 0), ("mark", 2), (1, 0)))

    def test_as_defined(self):
        for program in small_plan_programs(79, 100, most_items=4):
            for plan in slow_plans.plans(program):
                told = planned(program=program, plan=plan), origins(program=program, plan=plan)
                self.assertEqual(told, slow_plans.planned(program, plan), (program, plan))
                self.assertIs(require_program(told[0]), told[0])

    def test_safe_exactly_if_all_stretches_are_allowed(self):
        counts = {True: 0, False: 0}
        for program in small_plan_programs(80, 150, most_items=4):
            for plan in slow_plans.plans(program):
                right = all(is_allowed(program, one, two) for one, two in slow_plans.stretches(program, plan))
                counts[right] += 1
                self.assertIs(is_safe(planned(program, plan)), right, (program, plan))
        self.assertGreater(min(counts.values()), 100)

    def test_each_cell_that_a_mark_lists_must_be_saved(self):
        dropped = 0
        for program in small_plan_programs(81, 100, most_items=4):
            for plan in slow_plans.plans(program):
                kept, loose, items = planned(program, plan)
                if not is_safe((kept, loose, items)):
                    continue
                for index, item in enumerate(items):
                    for cell in item[1] if item[0] == "mark" else ():
                        less = ("mark", tuple(other for other in item[1] if other != cell))
                        changed = (kept, loose, items[:index] + (less,) + items[index + 1:])
                        self.assertIs(is_safe(changed), False, (program, plan, index, cell))
                        dropped += 1
        self.assertGreater(dropped, 100)


class TestLimits(unittest.TestCase):
    def calls(self, program):
        yield lambda: places(program)
        yield lambda: split_program(program, ())
        yield lambda: planned(program, ())
        yield lambda: origins(program, ())
        yield lambda: needed(program, 0, 2)
        yield lambda: is_allowed(program, 0, 2)

    def refused(self, program, limit):
        for call in self.calls(program):
            with self.assertRaises(TooGreat) as caught:
                call()
            self.assertEqual(caught.exception.limit, limit)
        bare(program)

    def test_just_within(self):
        for program in (FULL, (4, 4, FULL[2] + (("mark", (0,)),) * 48), (0, 4, (("ask", 0),) * 16)):
            for call in self.calls(program):
                call()

    def test_seventeen_items(self):
        self.refused((4, 4, FULL[2] + (("send", (0,)),)), 16)
        self.refused((1, 0, (("mark", ()),) * 40 + (SEND,) * 17), 16)

    def test_five_loose_cells(self):
        self.refused((4, 5, FULL[2]), 4)
        self.refused((0, 5, (("ask", 0),)), 4)

    def test_both(self):
        self.refused((4, 5, FULL[2] + (("send", (0,)),)), 16)

    def test_marks_do_not_count(self):
        self.assertEqual(places((4, 4, (("mark", ()),) * 64)), (0,))


class TestArguments(unittest.TestCase):
    def test_arguments_are_as_they_were_and_answers_the_same_again(self):
        for program in small_plan_programs(82, 40):
            before = copy.deepcopy(program)
            stops = places(program)
            told = (stops, bare(program), planned(program, stops[1:-1]), origins(program, stops[1:-1]))
            self.assertEqual((places(program), bare(program)), told[:2])
            self.assertEqual((planned(program, stops[1:-1]), origins(program, stops[1:-1])), told[2:])
            self.assertEqual(program, before)

    def test_each_function_is_defined_in_its_file(self):
        for function in (bare, places, split_program, planned, origins, needed, is_allowed):
            self.assertEqual(function.__module__, module.__name__)


if __name__ == "__main__":
    unittest.main()
