import copy
import unittest

from cutrows import good
from cutrows.good import first_sent, run_fault, same_shape
from cutrows.machines import Machine
from cutrows.runs import run

import slow
from samples import samples

SHORT = (1, 0, (("do", 0, (0,)), ("send", (0,))))
ASKED = (0, 1, (("ask", 0), ("send", (0,))))
SAVED = (0, 1, (("ask", 0), ("mark", (0,)), ("send", (0,))))
# The list of cell 0 is not reduced by the mark, so an older value of it can come beside a newer answer.
BESIDE = (1, 1, (("ask", 1), ("do", 0, (1,)), ("mark", (1,)), ("send", (0, 1))))
OLDER = ((2, (1,)), (3, (0,)))


def doubled(many):
    """A program whose every do reads two cells, which the one before has made of the same cell."""
    items = (("ask", 0),) + (("do", 1, (0,)), ("do", 0, (0, 1))) * many
    return (0, 2, items + (("send", (0, 1)),))


class TestSameShape(unittest.TestCase):
    def setUp(self):
        self.program = (2, 2, (
            ("ask", 2), ("ask", 3), ("do", 0, (2,)), ("do", 1, (2,)), ("do", 0, (0, 3)), ("do", 1, ()), ("do", 1, (3,)),
        ))
        self.plain = run(self.program)[1]
        self.made = run(self.program, ((2, (0, 0)), (6, (2, 1)), (7, (1, 1))))[1]

    def same(self, one, two):
        """Compare the numbers that are told so in a run with cuts and in the one without."""
        return same_shape(self.made, self.made.index(one), self.plain, self.plain.index(two))

    def test_nothing_and_the_first_values(self):
        self.assertIs(self.same(("nothing",), ("nothing",)), True)
        for cell in (0, 1):
            self.assertIs(self.same(("first", cell), ("first", cell)), True)
            self.assertIs(self.same(("first", cell), ("first", 1 - cell)), False)
            self.assertIs(self.same(("first", cell), ("nothing",)), False)
            self.assertIs(self.same(("nothing",), ("first", cell)), False)

    def test_answers_of_one_item_whatever_the_time(self):
        for time in range(3):
            self.assertIs(self.same(("ask", 0, time), ("ask", 0, 0)), True)
            self.assertIs(self.same(("ask", 0, time), ("ask", 1, 0)), False)
            self.assertIs(self.same(("ask", 1, time), ("ask", 1, 0)), True)
            self.assertIs(self.same(("ask", 1, time), ("first", 1)), False)
            self.assertIs(self.same(("ask", 1, time), ("nothing",)), False)

    def test_a_do_of_the_same_item_and_of_parts_of_one_shape(self):
        answers = [self.made.index(("ask", 0, time)) for time in (0, 1, 2)]
        right = self.plain.index(("ask", 0, 0))
        # The first cut comes before the do, so it has not read the first answer.
        for number in answers[1:]:
            self.assertIs(self.same(("do", 2, (number,)), ("do", 2, (right,))), True)
            self.assertIs(self.same(("do", 2, (number,)), ("do", 3, (right,))), False)
            self.assertIs(self.same(("do", 3, (number,)), ("do", 3, (right,))), True)
            self.assertIs(self.same(("do", 3, (number,)), ("ask", 0, 0)), False)
        self.assertIs(self.same(("do", 5, ()), ("do", 5, ())), True)

    def test_parts_are_compared_one_by_one(self):
        program = (2, 1, (("do", 2, (0, 1)), ("do", 0, ()), ("do", 1, ())))
        plain = run(program)[1]
        for picks, right in (((0, 0), True), ((1, 0), False), ((0, 1), False), ((1, 1), False)):
            made = run(program, ((3, picks),))[1]
            last = max(number for number, told in enumerate(made) if told[:2] == ("do", 0))
            self.assertIs(same_shape(made, last, plain, plain.index(("do", 0, (1, 2)))), right)
            self.assertIs(same_shape(plain, plain.index(("do", 0, (1, 2))), made, last), right)

    def test_parts_in_another_order(self):
        program = (2, 1, (("do", 2, (0, 1)), ("do", 0, (1,)), ("do", 1, (0,)), ("do", 0, (1,))))
        one = (("nothing",), ("first", 0), ("first", 1), ("do", 0, (1, 2)))
        two = (("nothing",), ("first", 0), ("first", 1), ("do", 0, (2, 1)))
        self.assertEqual(run(program)[1][:4], one)
        self.assertIs(same_shape(one, 3, two, 3), False)
        self.assertIs(same_shape(one, 3, one, 3), True)

    def test_two_numbers_of_one_run(self):
        made = run(ASKED, ((2, ()), (2, ())))[1]
        for one in (1, 2, 3):
            for two in (1, 2, 3):
                self.assertIs(same_shape(made, one, made, two), True)
            self.assertIs(same_shape(made, one, made, 0), False)
        self.assertIs(same_shape(one_made=made, one=0, two_made=made, two=0), True)

    def test_other_numbers_of_one_shape_in_two_runs(self):
        one = run((0, 2, (("ask", 0), ("ask", 1), ("do", 0, (1,)))), ((1, ()), (1, ())))[1]
        two = run((0, 2, (("ask", 0), ("ask", 1), ("do", 0, (1,)))))[1]
        self.assertEqual((one[-1], two[-1]), (("do", 2, (4,)), ("do", 2, (2,))))
        self.assertIs(same_shape(one, len(one) - 1, two, len(two) - 1), True)
        self.assertIs(same_shape(one, 2, two, 2), False)

    def test_as_defined(self):
        for program, cuts in samples(21, 200):
            made, plain = run(program, cuts)[1], run(program)[1]
            for one in range(len(made)):
                for two in range(len(plain)):
                    self.assertIs(same_shape(made, one, plain, two), slow.same(made, one, plain, two))
                for two in range(0, len(made), 3):
                    self.assertIs(same_shape(made, one, made, two), slow.same(made, one, made, two))

    def test_parts_used_twice_over_and_over(self):
        program = doubled(31)
        one, two = run(program)[1], run(program, ((60, ()), (64, ())))[1]
        self.assertIs(same_shape(one, len(one) - 1, two, len(two) - 1), True)
        self.assertIs(same_shape(one, len(one) - 1, two, len(two) - 2), False)

    def test_some_hundred_steps(self):
        many = [("nothing",), ("first", 0)] + [("do", 0, (number,)) for number in range(1, 900)]
        self.assertIs(same_shape(tuple(many), 900, tuple(many), 900), True)
        self.assertIs(same_shape(tuple(many), 900, tuple(many), 899), False)

    def test_numbers_of_a_machine_that_was_cut_often(self):
        machine = Machine((2, 0, (("do", 0, (0, 1)), ("do", 1, (0, 1)))))
        for _ in range(400):
            machine.go(2)
            machine.cut((1, 1))
        made = machine.made()
        self.assertEqual(len(made), 803)
        self.assertIs(same_shape(made, 802, made, 802), True)
        self.assertIs(same_shape(made, 802, made, 800), False)


class TestFirstSent(unittest.TestCase):
    def test_the_example(self):
        self.assertEqual(first_sent(SHORT, ((1, (1,)),)), {1: (3,)})
        self.assertEqual(first_sent(SHORT, ()), {1: (2,)})

    def test_no_send(self):
        self.assertEqual(first_sent((1, 0, ()), ((0, (0,)),)), {})
        self.assertEqual(first_sent((0, 1, (("ask", 0), ("mark", ()))), ()), {})

    def test_what_is_sent_later_does_not_count(self):
        self.assertEqual(first_sent(ASKED, ((2, ()), (2, ()))), {1: (1,)})
        self.assertEqual(first_sent(ASKED, ((1, ()), (2, ()))), {1: (2,)})

    def test_the_keys_ascend(self):
        program = (1, 1, (("send", (0,)), ("do", 0, (0,)), ("send", (0, 1)), ("mark", ()), ("send", (1,)), ("send", (0,))))
        for cuts in ((), ((3, (1,)),), ((2, (0,)), (6, (0,))), ((1, (0,)),) * 8):
            told = first_sent(program, cuts)
            self.assertEqual(list(told), [0, 2, 4, 5])
        self.assertEqual(first_sent(program, ((1, (0,)), (6, (0,)))), {0: (1,), 2: (2, 0), 4: (0,), 5: (2,)})

    def test_a_new_dict_each_time(self):
        told = first_sent(SHORT, ())
        told[1] = ()
        told[7] = ()
        self.assertEqual(first_sent(SHORT, ()), {1: (2,)})

    def test_as_defined(self):
        for program, cuts in samples(22, 300):
            sent = run(program, cuts)[0]
            told = first_sent(program=program, cuts=cuts)
            self.assertEqual(list(told), [k for k, item in enumerate(program[2]) if item[0] == "send"])
            for item, numbers in told.items():
                self.assertEqual(numbers, [other for index, other in sent if index == item][0])


class TestRunFault(unittest.TestCase):
    def test_the_example(self):
        self.assertEqual(run_fault(SHORT, ((1, (1,)),)), ("shape", 1))

    def test_no_cut_is_good(self):
        for program in (SHORT, ASKED, SAVED, BESIDE, (1, 0, ()), (0, 1, (("send", (0,)),))):
            self.assertIsNone(run_fault(program, ()))

    def test_nothing_may_be_sent(self):
        program = (0, 1, (("send", (0,)), ("mark", ()), ("send", (0,))))
        self.assertIsNone(run_fault(program, ((3, ()), (1, ()))))

    def test_the_same_sent_again_is_good(self):
        self.assertIsNone(run_fault(SHORT, ((2, (0,)),) * 8))
        self.assertIsNone(run_fault(SAVED, ((3, ()),) * 8))

    def test_an_answer_that_was_never_sent_may_be_another_one(self):
        self.assertIsNone(run_fault(SAVED, ((1, ()),) * 8))
        self.assertIsNone(run_fault(ASKED, ((1, ()), (1, ()))))

    def test_another_answer_again(self):
        self.assertEqual(run_fault(ASKED, ((2, ()),)), ("again", 1))
        self.assertEqual(run_fault(ASKED, ((9, ()),)), ("again", 1))
        self.assertEqual(run_fault(ASKED, ((1, ()),) * 7 + ((2, ()),)), ("again", 1))

    def test_the_first_one_again_in_the_order_of_the_run(self):
        program = (1, 1, (("send", (0,)), ("do", 0, (0,)), ("ask", 1), ("send", (1,))))
        self.assertEqual(run_fault(program, ((4, (0,)), (4, (1,)))), ("again", 3))
        self.assertEqual(run_fault(program, ((4, (1,)), (4, (1,)))), ("again", 0))
        program = (0, 1, (("ask", 0), ("send", (0,)), ("do", 0, (0,)), ("send", (0,))))
        self.assertEqual(run_fault(program, ((4, ()),)), ("again", 1))

    def test_again_comes_before_shape(self):
        program = (1, 1, (("do", 0, ()), ("mark", ()), ("send", (0,)), ("ask", 1), ("send", (1,))))
        self.assertEqual(run_fault(program, ((2, (0,)),)), ("shape", 2))
        self.assertEqual(run_fault(program, ((2, (0,)), (3, (0,)))), ("again", 4))

    def test_the_least_send_of_another_shape(self):
        program = (1, 0, (("do", 0, (0,)), ("send", (0,)), ("do", 0, (0,)), ("send", (0,))))
        self.assertEqual(run_fault(program, ((1, (1,)),)), ("shape", 1))
        program = (1, 1, (("do", 0, ()), ("mark", ()), ("send", (1,)), ("send", (0, 1)), ("send", (0,))))
        self.assertEqual(run_fault(program, ((2, (0,)),)), ("shape", 3))

    def test_a_lost_value_has_another_shape(self):
        program = (0, 1, (("do", 0, ()), ("mark", ()), ("send", (0,))))
        self.assertEqual(run_fault(program, ((2, ()),)), ("shape", 2))
        self.assertEqual(run_fault(program, ((3, ()),)), ("again", 2))
        self.assertIsNone(run_fault(program, ((1, ()),)))

    def test_answers_of_one_item_beside_each_other(self):
        self.assertEqual(run(BESIDE, OLDER)[0], ((3, (3, 4)),))
        self.assertEqual(run_fault(BESIDE, OLDER), ("answers", 0))
        self.assertEqual(run_fault(BESIDE, OLDER[1:]), ("shape", 3))
        self.assertIsNone(run_fault(BESIDE, ((2, (1,)), (3, (1,)))))

    def test_answers_of_one_item_in_two_sends(self):
        program = BESIDE[:2] + (BESIDE[2][:3] + (("send", (1,)), ("send", (0,))),)
        self.assertEqual(run_fault(program, OLDER), ("answers", 0))

    def test_the_least_item_with_two_answers(self):
        items = (("do", 2, ()), ("ask", 2), ("ask", 1), ("do", 0, (1, 2)), ("mark", (1, 2)), ("send", (0, 1, 2)))
        self.assertEqual(run_fault((1, 2, items), ((4, (1,)), (5, (0,)))), ("answers", 1))
        self.assertEqual(run_fault((1, 2, items[:5] + (("send", (0, 1)),)), ((4, (1,)), (5, (0,)))), ("answers", 2))

    def test_shape_comes_before_answers(self):
        program = (2, 1, (("ask", 2), ("do", 0, (2,)), ("do", 1, ()), ("mark", (2,)), ("send", (0, 2)), ("send", (1,))))
        self.assertEqual(run_fault(program, ((3, (1, 1)), (4, (0, 1)))), ("answers", 0))
        self.assertEqual(run_fault(program, ((3, (1, 0)), (4, (0, 0)))), ("shape", 5))

    def test_answers_that_came_again_but_are_not_sent_first(self):
        # The older answer is in cell 0 alone, and that is not sent.
        program = BESIDE[:2] + (BESIDE[2][:3] + (("send", (1,)),),)
        self.assertIsNone(run_fault(program, OLDER))

    def test_as_defined(self):
        words = []
        for program, cuts in samples(23, 2500):
            told = run_fault(program=program, cuts=cuts)
            self.assertEqual(told, slow.fault(program, cuts), (program, cuts))
            words.append(told and told[0])
        self.assertEqual({None, "again", "shape"} - set(words), set())

    def test_answers_as_defined(self):
        words = []
        for _, cuts in samples(24, 3000):
            cuts = tuple((count, picks[:1] if picks else (0,)) for count, picks in cuts)
            told = run_fault(BESIDE, cuts)
            self.assertEqual(told, slow.fault(BESIDE, cuts), cuts)
            words.append(told and told[0])
        self.assertEqual({None, "again", "shape", "answers"} - set(words), set())

    def test_long_programs_and_eight_cuts(self):
        program = doubled(31)
        self.assertEqual(len(program[2]), 64)
        self.assertIsNone(run_fault(program, ((63, ()),) * 8))
        self.assertEqual(run_fault(program, ((64, ()),) * 8), ("again", 63))
        self.assertIsNone(run_fault(program, ((63, ()),) * 30))

    def test_arguments_are_as_they_were(self):
        for program, cuts in samples(25, 100):
            before = copy.deepcopy((program, cuts))
            told = (first_sent(program, cuts), run_fault(program, cuts))
            self.assertEqual((first_sent(program, cuts), run_fault(program, cuts)), told)
            self.assertEqual((program, cuts), before)


class TestInterface(unittest.TestCase):
    def test_each_function_is_defined_in_its_file(self):
        for function in (same_shape, first_sent, run_fault):
            self.assertEqual(function.__module__, good.__name__)


if __name__ == "__main__":
    unittest.main()
