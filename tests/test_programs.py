import copy
import unittest

from cutrows.errors import InvalidProgram
from cutrows.programs import is_kept, mark_indices, read_cells, require_program, written_cell

from samples import samples

ALL = (0, 1, 2, 3, 4, 5, 6, 7, 8)
DO = ("do", 0, ())


class TestRequireProgram(unittest.TestCase):
    def accept(self, value):
        before = copy.deepcopy(value)
        self.assertIs(require_program(value), value)
        self.assertEqual(value, before)

    def refuse(self, value, index):
        before = copy.deepcopy(value)
        with self.assertRaises(InvalidProgram) as caught:
            require_program(value)
        self.assertEqual(caught.exception.index, index, value)
        self.assertIsNot(caught.exception.index, False)
        self.assertEqual(repr(value), repr(before))

    def test_right_numbers_of_cells(self):
        for kept in range(5):
            for loose in range(6):
                if kept + loose:
                    self.accept((kept, loose, ()))
                    self.accept((kept, loose, (("ask", kept + loose - 1), DO)))

    def test_wrong_numbers_of_cells(self):
        wrong = ((0, 0), (5, 0), (0, 6), (5, 6), (-1, 3), (3, -1), (4, 6), (5, 5), (10**29, 1), (1, 10**29))
        for kept, loose in wrong:
            self.refuse((kept, loose, ()), None)
            self.refuse((kept, loose, (("no item",),)), None)
        for one in (True, False, None, "1", (), (1,), [1], {}):
            self.refuse((one, 1, ()), None)
            self.refuse((1, one, ()), None)

    def test_what_is_no_triple(self):
        for value in (None, True, False, 0, 3, "abc", (), (1,), (1, 1), (1, 1, (), ()), [1, 1, ()], {}, {1: 1}):
            self.refuse(value, None)
        self.refuse({0: 1, 1: 1, 2: ()}, None)
        self.refuse(((1, 1, ()),), None)

    def test_items_that_are_no_tuple(self):
        for items in (None, True, 0, "", "abc", [], [DO], {}, {DO: DO}):
            self.refuse((1, 1, items), None)

    def test_many_items(self):
        for many in (0, 1, 63, 64):
            self.accept((1, 1, (DO,) * many))
        for many in (65, 66, 200):
            self.refuse((1, 1, (DO,) * many), None)
        self.refuse((1, 1, (("no item",),) + (DO,) * 64), None)
        self.refuse((1, 1, (DO,) * 64 + (("no item",),)), None)
        self.refuse((1, 1, (DO,) * 63 + (("no item",),)), 63)

    def test_right_items(self):
        for item in (
            ("do", 0, ()), ("do", 8, ()), ("do", 8, (8,)), ("do", 3, (0, 1, 8)), ("do", 1, (1, 2, 3)),
            ("ask", 0), ("ask", 8), ("send", (0,)), ("send", (8,)), ("send", (0, 8)), ("send", (2, 3, 8)),
            ("mark", ()), ("mark", (0,)), ("mark", (8,)), ("mark", ALL), ("mark", (1, 3, 5, 7)),
        ):
            self.accept((4, 5, (item,)))
            self.accept((4, 5, (DO, item, item)))

    def test_mark_with_all_cells_of_a_small_program(self):
        self.accept((1, 0, (("mark", (0,)),)))
        self.accept((0, 2, (("mark", (0, 1)),)))
        self.refuse((0, 2, (("mark", (0, 1, 2)),)), 0)

    def test_words_and_lengths(self):
        for item in (
            (), ("do",), ("do", 0), ("do", 0, (), ()), ("ask",), ("ask", 0, ()), ("ask", 0, 0), ("send",),
            ("send", (0,), ()), ("send", 0, (0,)), ("mark",), ("mark", (), ()), ("mark", 0, ()),
            ("Do", 0, ()), ("", 0), ("marks", ()), ("halt",), ("halt", 0), ("halt", (0,)), ("halt", 0, (0,)),
            (None, 0, ()), (0, 0, ()), (True, 0), (("do",), 0, ()), (["do"], 0, ()), ({}, 0), (b"do", 0, ()),
        ):
            self.refuse((1, 1, (item,)), 0)

    def test_items_that_are_no_tuples(self):
        for item in (None, True, 0, "do", "ask", ["do", 0, ()], ["mark", ()], {}, {"do": 0}, [], "do0"):
            self.refuse((1, 1, (DO, item)), 1)

    def test_written_cells(self):
        for cell in (-1, 2, 10**29, True, False, None, "0", (0,), [0], (), {}):
            self.refuse((1, 1, (("do", cell, ()),)), 0)
            self.refuse((1, 1, (("ask", cell),)), 0)

    def test_tuples_of_cells(self):
        wrong = (
            (1, 0), (0, 0), (0, 2, 1), (0, 1, 1), (9,), (0, 9), (-1,), (-1, 0), (True,), (False,), (0, True),
            (False, 1), (None,), ("0",), ((0,),), ([0],), [0], [], {}, {0: 0}, None, 0, True, "", "0", 10**29, (10**29,),
        )
        for cells in wrong:
            for item in (("do", 0, cells), ("send", cells), ("mark", cells)):
                self.refuse((4, 5, (item,)), 0)

    def test_how_many_cells(self):
        for many in range(10):
            cells = ALL[:many]
            for item, right in (
                (("do", 0, cells), many <= 3), (("send", cells), 1 <= many <= 3), (("mark", cells), True),
            ):
                if right:
                    self.accept((4, 5, (item,)))
                else:
                    self.refuse((4, 5, (item,)), 0)

    def test_each_cell_beyond_the_last_one_is_wrong(self):
        for kept, loose in ((1, 0), (0, 1), (2, 1), (4, 0), (0, 5), (3, 5)):
            beyond = kept + loose
            for item in (("do", beyond, ()), ("do", 0, (beyond,)), ("ask", beyond), ("send", (beyond,)), ("mark", (beyond,))):
                self.refuse((kept, loose, (item,)), 0)
            for item in (("do", beyond - 1, (beyond - 1,)), ("ask", beyond - 1), ("send", (beyond - 1,))):
                self.accept((kept, loose, (item,)))

    def test_index_of_the_first_wrong_item(self):
        wrong = ("send", ())
        for first in range(6):
            self.refuse((1, 1, (DO,) * first + (wrong, DO, wrong, None)), first)

    def test_deep_and_great_values(self):
        deep = ()
        for _ in range(39):
            deep = (deep,)
        self.refuse(deep, None)
        self.refuse((1, 1, deep), 0)
        self.refuse((1, 1, (DO, ("mark", deep))), 1)
        self.refuse(("x" * 20000, 1, ()), None)
        self.refuse((1, 1, (None,) * 19000), None)
        self.refuse((1, 1, (("mark", (0,) * 19000),)), 0)

    def test_by_name(self):
        self.assertEqual(require_program(value=(1, 0, ())), (1, 0, ()))

    def test_samples_are_programs(self):
        for program, _ in samples(1, 200):
            self.accept(program)


class TestItems(unittest.TestCase):
    def test_is_kept(self):
        for kept in range(5):
            for loose in range(0 if kept else 1, 6):
                told = [is_kept((kept, loose, ()), cell) for cell in range(kept + loose)]
                self.assertEqual(told, [True] * kept + [False] * loose)
                self.assertTrue(all(type(answer) is bool for answer in told))
        self.assertIs(is_kept(program=(1, 1, ()), cell=1), False)

    def test_written_cell(self):
        for cell in range(9):
            self.assertEqual(written_cell(("do", cell, ())), cell)
            self.assertEqual(written_cell(("do", cell, (3, 8))), cell)
            self.assertEqual(written_cell(("ask", cell)), cell)
            self.assertIsNone(written_cell(("send", (cell,))))
            self.assertIsNone(written_cell(("mark", (cell,))))
        self.assertIsNone(written_cell(("mark", ())))
        self.assertEqual(written_cell(item=("ask", 2)), 2)

    def test_read_cells(self):
        for cells in ((0,), (8,), (0, 3), (1, 2, 8)):
            self.assertEqual(read_cells(("do", 5, cells)), cells)
            self.assertEqual(read_cells(("send", cells)), cells)
            self.assertEqual(read_cells(("mark", cells)), ())
        self.assertEqual(read_cells(("do", 5, ())), ())
        self.assertEqual(read_cells(("ask", 5)), ())
        self.assertEqual(read_cells(("mark", ())), ())
        self.assertEqual(read_cells(item=("send", (1, 2))), (1, 2))

    def test_mark_indices(self):
        mark, send, ask = ("mark", (0,)), ("send", (0,)), ("ask", 0)
        for items, indices in (
            ((), ()), ((DO, send, ask), ()), ((mark,), (0,)), ((ask, mark, send), (1,)),
            ((mark, mark, DO, ("mark", ())), (0, 1, 3)), ((DO, ask, mark), (2,)), ((mark,) * 64, tuple(range(64))),
        ):
            program = (0, 1, items)
            self.assertEqual(mark_indices(program), indices)
            self.assertEqual(program, (0, 1, items))
        self.assertEqual(mark_indices(program=(0, 1, (ask, mark))), (1,))

    def test_each_function_is_defined_in_its_file(self):
        for function in (require_program, is_kept, written_cell, read_cells, mark_indices):
            self.assertEqual(function.__module__, "cutrows.programs")

    def test_the_example_of_the_document(self):
        told = (mark_indices((0, 1, (("ask", 0), ("mark", (0,)), ("send", (0,))))), written_cell(("send", (0,))))
        self.assertEqual(told, ((1,), None))


if __name__ == "__main__":
    unittest.main()
