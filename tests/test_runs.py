import copy
import unittest

from cutrows.runs import after_cuts, run

from replay import replay
from samples import samples

SHORT = (1, 0, (("do", 0, (0,)), ("send", (0,))))
LOOSE = (0, 2, (("ask", 0), ("do", 1, (0,)), ("mark", (0,)), ("send", (0, 1))))
KEPT = (
    1, 0,
    (("do", 0, (0,)), ("do", 0, (0,)), ("mark", (0,)), ("do", 0, (0,)), ("do", 0, (0,)), ("send", (0,))),
)
NOTHING = ("nothing",)


class TestWithoutCuts(unittest.TestCase):
    def test_no_cuts_handed_in(self):
        for program in (SHORT, LOOSE, KEPT, (2, 3, ())):
            self.assertEqual(run(program), run(program, ()))
            self.assertEqual(run(program=program, cuts=()), run(program))

    def test_no_items(self):
        self.assertEqual(run((2, 1, ())), ((), (NOTHING, ("first", 0), ("first", 1))))
        self.assertEqual(run((0, 1, ())), ((), (NOTHING,)))
        self.assertEqual(after_cuts((2, 1, ()), (), 5), (0, (1, 2, 0), ((1,), (2,))))
        self.assertEqual(run((1, 1, ()), ((3, (2,)), (0, (0,)))), ((), (NOTHING, ("first", 0))))

    def test_sends_in_order(self):
        program = (2, 1, (("send", (0, 2)), ("send", (0, 1, 2)), ("do", 2, (0, 1)), ("send", (2,)), ("send", (1,))))
        sent, made = run(program)
        self.assertEqual(sent, ((0, (1, 0)), (1, (1, 2, 0)), (3, (3,)), (4, (2,))))
        self.assertEqual(made, (NOTHING, ("first", 0), ("first", 1), ("do", 2, (1, 2))))

    def test_a_do_of_nothing_and_one_of_no_cells(self):
        program = (0, 2, (("do", 0, (1,)), ("do", 1, ()), ("do", 0, (0, 1))))
        self.assertEqual(run(program)[1], (NOTHING, ("do", 0, (0,)), ("do", 1, ()), ("do", 2, (1, 2))))

    def test_items_that_do_the_same_make_different_numbers(self):
        program = (1, 2, (("do", 1, (0,)), ("do", 2, (0,)), ("ask", 1), ("ask", 2), ("send", (1, 2))))
        sent, made = run(program)
        self.assertEqual(sent, ((4, (4, 5)),))
        self.assertEqual(made[2:], (("do", 0, (1,)), ("do", 1, (1,)), ("ask", 2, 0), ("ask", 3, 0)))

    def test_numbers_read_stand_in_the_order_of_the_cells(self):
        program = (3, 0, (("do", 0, (1, 2)), ("do", 2, (0, 1, 2)), ("send", (0, 2))))
        sent, made = run(program)
        self.assertEqual(made[4:], (("do", 0, (2, 3)), ("do", 1, (4, 2, 3))))
        self.assertEqual(sent, ((2, (4, 5)),))


class TestCuts(unittest.TestCase):
    def test_the_examples_of_the_document(self):
        self.assertEqual(
            run(SHORT, ((1, (1,)),)),
            (((1, (3,)),), (NOTHING, ("first", 0), ("do", 0, (1,)), ("do", 0, (2,)))),
        )
        self.assertEqual(after_cuts(SHORT, (), 1), (1, (2,), ((1, 2),)))
        self.assertEqual(after_cuts(SHORT, ((1, (1,)),), 0), (0, (2,), ((2,),)))

    def test_counts_of_nothing(self):
        for cuts in (((0, ()),), ((0, ()),) * 8):
            self.assertEqual(run(LOOSE, cuts), run(LOOSE))
            self.assertEqual(after_cuts(LOOSE, cuts, 0), (0, (0, 0), ()))

    def test_counts_of_just_as_many_items_as_remain_and_beyond(self):
        just = run(LOOSE, ((4, ()), (1, ())))
        self.assertEqual(just[0], ((3, (1, 2)), (3, (1, 0)), (3, (1, 0))))
        for cuts in (((5, ()), (1, ())), ((4, ()), (2, ())), ((64, ()), (64, ()))):
            self.assertEqual(run(LOOSE, cuts), just)
        self.assertEqual(run(LOOSE, ((4, ()), (0, ())))[0], ((3, (1, 2)), (3, (1, 0))))

    def test_beyond_the_limits_no_error_is_raised(self):
        self.assertEqual(run(SHORT, ((100, (100,)),)), run(SHORT, ((2, (1,)),)))
        self.assertEqual(run(SHORT, ((0, (0,)),) * 12), run(SHORT))
        self.assertEqual(after_cuts(SHORT, (), 100)[0], 2)

    def test_eight_cuts(self):
        program = (0, 1, (("ask", 0), ("send", (0,))))
        sent, made = run(program, ((1, ()),) * 8)
        self.assertEqual(sent, ((1, (9,)),))
        self.assertEqual(made, (NOTHING,) + tuple(("ask", 0, time) for time in range(9)))
        sent, made = run(program, ((2, ()),) * 8)
        self.assertEqual(sent, tuple((1, (time,)) for time in range(1, 10)))

    def test_a_cut_before_any_mark(self):
        self.assertEqual(after_cuts(LOOSE, ((1, ()),), 0), (0, (0, 0), ()))
        self.assertEqual(after_cuts(LOOSE, ((2, ()),), 0), (0, (0, 0), ()))
        sent, made = run(LOOSE, ((1, ()),))
        self.assertEqual(sent, ((3, (2, 3)),))
        self.assertEqual(made, (NOTHING, ("ask", 0, 0), ("ask", 0, 1), ("do", 1, (2,))))

    def test_a_cut_right_behind_a_mark(self):
        self.assertEqual(after_cuts(LOOSE, ((3, ()),), 0), (3, (1, 0), ()))
        self.assertEqual(run(LOOSE, ((3, ()),))[0], ((3, (1, 0)),))
        self.assertEqual(run(LOOSE, ((3, ()), (0, ()), (0, ())))[0], ((3, (1, 0)),))

    def test_a_cut_right_before_a_mark(self):
        program = (0, 1, (("ask", 0), ("mark", (0,)), ("ask", 0), ("mark", (0,)), ("send", (0,))))
        self.assertEqual(after_cuts(program, ((3, ()),), 0), (2, (1,), ()))
        self.assertEqual(after_cuts(program, ((4, ()),), 0), (4, (2,), ()))

    def test_a_mark_that_is_the_last_item(self):
        program = (1, 0, (("do", 0, (0,)), ("mark", (0,))))
        self.assertEqual(after_cuts(program, ((2, (0,)),), 3), (2, (2,), ((2,),)))

    def test_a_cut_behind_several_marks(self):
        program = (0, 2, (("ask", 0), ("mark", (0,)), ("do", 1, (0,)), ("mark", (1,)), ("send", (0, 1))))
        self.assertEqual(after_cuts(program, ((2, ()),), 0), (2, (1, 0), ()))
        self.assertEqual(after_cuts(program, ((4, ()),), 0), (4, (0, 2), ()))
        self.assertEqual(after_cuts(program, ((2, ()), (2, ())), 0), (4, (0, 2), ()))
        self.assertEqual(run(program, ((5, ()),))[0], ((4, (1, 2)), (4, (0, 2))))

    def test_where_it_goes_on_for_each_count(self):
        program = (1, 0, (("mark", ()), ("do", 0, ()), ("mark", ()), ("mark", ()), ("do", 0, ())))
        told = [after_cuts(program, ((count, (0,)),), 0)[0] for count in range(7)]
        self.assertEqual(told, [0, 1, 1, 3, 4, 4, 4])

    def test_the_saved_value_is_that_of_the_moment_of_the_mark(self):
        program = (0, 1, (("ask", 0), ("mark", (0,)), ("ask", 0), ("send", (0,))))
        self.assertEqual(after_cuts(program, (), 3)[1], (2,))
        self.assertEqual(after_cuts(program, ((3, ()),), 0)[1], (1,))
        self.assertEqual(after_cuts(program, ((3, ()), (1, ())), 0)[1], (1,))
        self.assertEqual(run(program, ((3, ()), (1, ())))[0], ((3, (4,)),))

    def test_a_saved_nothing(self):
        program = (0, 1, (("mark", (0,)), ("ask", 0), ("send", (0,))))
        self.assertEqual(after_cuts(program, ((2, ()),), 0), (1, (0,), ()))

    def test_a_lost_cell_is_not_saved_by_a_mark_before(self):
        program = (0, 1, (("ask", 0), ("mark", (0,)), ("mark", ()), ("send", (0,))))
        self.assertEqual(run(program, ((2, ()),))[0], ((3, (1,)),))
        self.assertEqual(run(program, ((3, ()),))[0], ((3, (0,)),))
        self.assertEqual(run(program)[0], ((3, (1,)),))


class TestKeptCells(unittest.TestCase):
    def test_the_list_grows_and_a_mark_reduces_it(self):
        told = [after_cuts(KEPT, (), count) for count in range(7)]
        self.assertEqual(told, [
            (0, (1,), ((1,),)),
            (1, (2,), ((1, 2),)),
            (2, (3,), ((1, 2, 3),)),
            (3, (3,), ((3,),)),
            (4, (4,), ((3, 4),)),
            (5, (5,), ((3, 4, 5),)),
            (6, (5,), ((3, 4, 5),)),
        ])

    def test_each_pick(self):
        for pick, number in ((0, 3), (1, 4), (2, 5), (3, 5), (4, 5), (64, 5)):
            self.assertEqual(after_cuts(KEPT, ((5, (pick,)),), 0), (3, (number,), ((number,),)))
        for pick, number in ((0, 1), (1, 2), (2, 3), (3, 3), (64, 3)):
            self.assertEqual(after_cuts(KEPT, ((2, (pick,)),), 0), (0, (number,), ((number,),)))

    def test_an_ask_appends_too(self):
        program = (1, 0, (("ask", 0), ("ask", 0)))
        self.assertEqual(after_cuts(program, (), 2), (2, (3,), ((1, 2, 3),)))
        self.assertEqual(after_cuts(program, ((2, (1,)),), 1), (1, (4,), ((2, 4),)))

    def test_a_number_written_again_is_appended_again(self):
        program = (1, 1, (("do", 0, ()), ("do", 0, (1,))))
        self.assertEqual(after_cuts(program, ((2, (1,)),), 1), (1, (2, 0), ((2, 2),)))

    def test_a_mark_that_does_not_list_the_cell_leaves_its_list(self):
        program = (2, 0, (("do", 0, (0,)), ("mark", (1,)), ("do", 0, (0,)), ("do", 1, (0,))))
        self.assertEqual(after_cuts(program, (), 4), (4, (4, 5), ((1, 3, 4), (2, 5))))
        self.assertEqual(after_cuts(program, ((4, (0, 0)),), 0), (2, (1, 2), ((1,), (2,))))
        self.assertEqual(after_cuts(program, ((4, (1, 1)),), 1), (3, (4, 5), ((3, 4), (5,))))

    def test_each_cell_has_its_own_pick(self):
        program = (3, 1, (("do", 0, ()), ("do", 1, ()), ("do", 2, ()), ("ask", 3)))
        self.assertEqual(after_cuts(program, ((4, (0, 1, 0)),), 0), (0, (1, 5, 3, 0), ((1,), (5,), (3,))))
        self.assertEqual(after_cuts(program, ((4, (1, 0, 7)),), 0), (0, (4, 2, 6, 0), ((4,), (2,), (6,))))

    def test_a_cut_reduces_also_without_a_write(self):
        program = (1, 0, (("do", 0, (0,)), ("mark", ()), ("send", (0,))))
        self.assertEqual(after_cuts(program, ((2, (0,)), (0, (1,))), 0), (2, (1,), ((1,),)))

    def test_kept_and_loose_cells_in_one_mark(self):
        program = (2, 2, (("ask", 0), ("ask", 1), ("ask", 2), ("ask", 3), ("mark", (1, 2)), ("ask", 2)))
        self.assertEqual(after_cuts(program, (), 5), (5, (3, 4, 5, 6), ((1, 3), (4,))))
        self.assertEqual(after_cuts(program, ((6, (0, 0)),), 0), (5, (1, 4, 5, 0), ((1,), (4,))))


class TestNumbers(unittest.TestCase):
    def test_the_same_do_with_the_same_numbers(self):
        sent, made = run(SHORT, ((1, (0,)),))
        self.assertEqual((sent, made), (((1, (2,)),), (NOTHING, ("first", 0), ("do", 0, (1,)))))
        self.assertEqual(run(SHORT, ((2, (0,)),) * 8), (((1, (2,)),) * 9, made))

    def test_a_number_of_an_earlier_stretch_comes_back(self):
        program = (1, 1, (("do", 1, (0,)), ("ask", 0), ("send", (1,))))
        sent, made = run(program, ((3, (1,)), (3, (0,)), (0, (0,))))
        self.assertEqual(sent, ((2, (2,)), (2, (4,)), (2, (4,))))
        self.assertEqual(made, (
            NOTHING, ("first", 0), ("do", 0, (1,)), ("ask", 1, 0), ("do", 0, (3,)), ("ask", 1, 1), ("ask", 1, 2),
        ))
        sent, made = run(program, ((1, (0,)), (2, (0,)), (2, (1,))))
        self.assertEqual(sent, ((2, (5,)),))
        self.assertEqual(made[2:], (("do", 0, (1,)), ("ask", 1, 0), ("ask", 1, 1), ("do", 0, (4,)), ("ask", 1, 2)))

    def test_an_ask_again_is_a_new_number(self):
        program = (0, 2, (("ask", 0), ("ask", 1), ("mark", (0,)), ("ask", 1), ("send", (0, 1))))
        sent, made = run(program, ((1, ()), (2, ()), (4, ()), (1, ())))
        self.assertEqual(made, (
            NOTHING, ("ask", 0, 0), ("ask", 0, 1), ("ask", 1, 0), ("ask", 0, 2), ("ask", 1, 1),
            ("ask", 3, 0), ("ask", 3, 1), ("ask", 3, 2),
        ))
        self.assertEqual(sent, ((4, (4, 8)),))

    def test_numbers_of_one_do_of_other_numbers(self):
        sent, made = run(SHORT, ((1, (1,)), (1, (1,)), (1, (0,))))
        self.assertEqual(made, (NOTHING, ("first", 0), ("do", 0, (1,)), ("do", 0, (2,)), ("do", 0, (3,))))
        self.assertEqual(sent, ((1, (4,)),))


class TestInterface(unittest.TestCase):
    def test_each_function_is_defined_in_its_file(self):
        for function in (run, after_cuts):
            self.assertEqual(function.__module__, "cutrows.runs")


class TestAgainstTheDefinitions(unittest.TestCase):
    def compare(self, program, cuts):
        many = len(program[2])
        _, sent, made = replay(program, cuts, many)
        self.assertEqual(run(program, cuts), (sent, made), (program, cuts))
        for count in (0, 1, 2, many // 2, many, many + 1):
            self.assertEqual(after_cuts(program, cuts, count), replay(program, cuts, count)[0], (program, cuts, count))

    def test_short_programs(self):
        for program, cuts in samples(2, 1500, most_items=8):
            self.compare(program, cuts)

    def test_long_programs(self):
        for program, cuts in samples(3, 12, most_items=64, most_cuts=3):
            self.compare(program, cuts)

    def test_arguments_are_as_they_were_and_answers_the_same_again(self):
        for program, cuts in samples(4, 100):
            before = copy.deepcopy((program, cuts))
            first = (run(program, cuts), after_cuts(program, cuts, 3))
            self.assertEqual((run(program=program, cuts=cuts), after_cuts(program=program, cuts=cuts, count=3)), first)
            self.assertEqual((program, cuts), before)

    def test_kinds_of_the_answers(self):
        for program, cuts in samples(5, 100):
            told = (run(program, cuts), after_cuts(program, cuts, 3))
            self.assertTrue(only_tuples(told), told)


def only_tuples(value):
    """Whether the value is built from tuples, integers and strings alone."""
    if type(value) is tuple:
        return all(only_tuples(part) for part in value)
    return type(value) in (int, str)


if __name__ == "__main__":
    unittest.main()
