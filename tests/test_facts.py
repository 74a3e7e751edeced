import copy
import unittest

from cutrows import facts
from cutrows.facts import facts_of, first_facts, leads, lineage

import slow
from samples import samples

SHORT = (1, 0, (("do", 0, (0,)), ("send", (0,))))


def wrong(*pairs):
    return tuple((position, "wrong", cell) for position, cell in pairs)


def all_facts(program):
    """Every fact of the program, whether it holds or not."""
    for position in range(len(program[2]) + 1):
        for word in ("open", "wrong"):
            for cell in range(program[0] + program[1]):
                yield (position, word, cell)


class TestFirstFacts(unittest.TestCase):
    def firsts(self, kept, loose, *items):
        return first_facts((kept, loose, items))

    def test_the_example(self):
        self.assertEqual(first_facts(SHORT), wrong((0, 0)))

    def test_no_items(self):
        self.assertEqual(self.firsts(4, 5), ())
        self.assertEqual(self.firsts(0, 1), ())

    def test_a_kept_cell_that_is_written_before_the_first_mark(self):
        self.assertEqual(self.firsts(2, 0, ("do", 1, ())), wrong((0, 1)))
        self.assertEqual(self.firsts(2, 0, ("do", 1, ()), ("mark", (0, 1))), wrong((0, 1)))
        self.assertEqual(self.firsts(1, 0, ("mark", (0,)), ("do", 0, ())), wrong((1, 0)))
        self.assertEqual(self.firsts(1, 0, ("ask", 0)), ((0, "wrong", 0), (1, "open", 0)))

    def test_a_loose_cell_is_not_wrong_at_the_start(self):
        self.assertEqual(self.firsts(0, 1, ("do", 0, ())), ())
        self.assertEqual(self.firsts(1, 1, ("do", 1, (0,)), ("mark", (1,))), ())

    def test_a_kept_cell_behind_a_mark(self):
        do = ("do", 0, ())
        self.assertEqual(self.firsts(1, 0, do, ("mark", ())), wrong((0, 0), (2, 0)))
        self.assertEqual(self.firsts(1, 0, do, ("mark", (0,))), wrong((0, 0)))
        self.assertEqual(self.firsts(1, 0, ("mark", (0,)), do), wrong((1, 0)))
        self.assertEqual(self.firsts(1, 0, ("mark", ()), do), wrong((1, 0)))
        self.assertEqual(self.firsts(1, 0, ("mark", ()), ("mark", ()), do), wrong((2, 0)))
        self.assertEqual(self.firsts(1, 0, ("mark", ()), ("mark", (0,)), do, ("mark", (0,))), wrong((2, 0)))

    def test_the_list_goes_on_over_marks_that_do_not_list_the_cell(self):
        do = ("do", 0, ())
        items = (do, ("mark", ()), ("mark", ()), ("mark", (0,)), ("mark", ()))
        self.assertEqual(self.firsts(1, 0, *items), wrong((0, 0), (2, 0), (3, 0)))
        items = (("mark", (0,)), ("mark", ()), do, ("mark", ()), ("mark", ()), ("mark", (0,)))
        self.assertEqual(self.firsts(1, 0, *items), wrong((2, 0), (4, 0), (5, 0)))

    def test_a_loose_cell_behind_a_mark(self):
        do = ("do", 0, ())
        self.assertEqual(self.firsts(0, 1, do, ("mark", ())), wrong((2, 0)))
        self.assertEqual(self.firsts(0, 1, do, ("mark", (0,))), ())
        self.assertEqual(self.firsts(0, 1, ("mark", ()), do), ())
        self.assertEqual(self.firsts(0, 1, do, ("mark", (0,)), ("mark", ())), wrong((3, 0)))
        self.assertEqual(self.firsts(0, 2, do, ("mark", (1,)), ("mark", (0,))), wrong((2, 0)))
        self.assertEqual(self.firsts(0, 1, ("ask", 0), ("mark", ())), ((1, "open", 0), (2, "wrong", 0)))

    def test_a_send_writes_nothing(self):
        self.assertEqual(self.firsts(1, 1, ("send", (0, 1)), ("mark", ()), ("send", (0, 1)), ("mark", ())), ())

    def test_asks(self):
        self.assertEqual(self.firsts(0, 1, ("ask", 0), ("ask", 0)), ((1, "open", 0), (2, "open", 0)))
        self.assertEqual(self.firsts(0, 2, ("ask", 1), ("mark", (1,)), ("ask", 0)), ((1, "open", 1), (3, "open", 0)))

    def test_they_ascend(self):
        told = self.firsts(1, 2, ("mark", ()), ("do", 0, ()), ("ask", 1), ("do", 2, ()), ("mark", ()), ("ask", 1))
        self.assertEqual(told, (
            (1, "wrong", 0), (3, "open", 1), (5, "wrong", 0), (5, "wrong", 1), (5, "wrong", 2), (6, "open", 1),
        ))

    def test_as_defined(self):
        for program, _ in samples(41, 1500, most_items=16):
            self.assertEqual(first_facts(program=program), slow.first(program), program)


class TestLeads(unittest.TestCase):
    def led(self, item, word, cell):
        """The cells at position 2 of the facts to which one at position 1 leads, by the item."""
        told = leads((2, 2, (("mark", ()), item)), (1, word, cell))
        for position, other_word, _ in told:
            self.assertEqual((position, other_word), (2, word))
        return [fact[2] for fact in told]

    def test_do(self):
        for word in ("wrong", "open"):
            self.assertEqual(self.led(("do", 1, (0, 2)), word, 0), [0, 1])
            self.assertEqual(self.led(("do", 1, (0, 2)), word, 1), [])
            self.assertEqual(self.led(("do", 1, (0, 2)), word, 2), [1, 2])
            self.assertEqual(self.led(("do", 1, (0, 2)), word, 3), [3])
            self.assertEqual(self.led(("do", 1, (0, 1)), word, 1), [1])
            self.assertEqual(self.led(("do", 1, ()), word, 1), [])
            self.assertEqual(self.led(("do", 1, ()), word, 0), [0])

    def test_ask(self):
        for word in ("wrong", "open"):
            self.assertEqual(self.led(("ask", 2), word, 2), [])
            self.assertEqual(self.led(("ask", 2), word, 1), [1])

    def test_send(self):
        for word in ("wrong", "open"):
            self.assertEqual(self.led(("send", (0, 3)), word, 0), [0])
            self.assertEqual(self.led(("send", (0, 3)), word, 1), [1])

    def test_mark(self):
        for cells in ((), (0,), (0, 1, 2, 3)):
            for cell in range(4):
                self.assertEqual(self.led(("mark", cells), "wrong", cell), [cell])
                self.assertEqual(self.led(("mark", cells), "open", cell), [])

    def test_at_the_last_position(self):
        self.assertEqual(leads(SHORT, (2, "wrong", 0)), ())
        self.assertEqual(leads((0, 1, ()), (0, "open", 0)), ())

    def test_as_defined_whether_it_holds_or_not(self):
        for program, _ in samples(42, 150, most_items=12):
            for fact in all_facts(program):
                self.assertEqual(leads(program=program, fact=fact), slow.led(program, fact), (program, fact))


class TestFactsOf(unittest.TestCase):
    def test_the_example(self):
        self.assertEqual(facts_of(SHORT), wrong((0, 0), (1, 0), (2, 0)))

    def test_none(self):
        self.assertEqual(facts_of((1, 0, ())), ())
        self.assertEqual(facts_of((1, 1, (("do", 1, (0,)), ("mark", (1,)), ("send", (1,))))), ())

    def test_a_fact_at_the_last_position(self):
        self.assertEqual(facts_of((0, 1, (("ask", 0),))), ((1, "open", 0),))
        self.assertEqual(facts_of((0, 1, (("do", 0, ()), ("mark", ())))), wrong((2, 0)))

    def test_an_open_one_ends_at_a_mark_and_a_wrong_one_does_not(self):
        program = (1, 1, (("ask", 1), ("do", 0, (1,)), ("mark", (0, 1)), ("send", (0,))))
        self.assertEqual(facts_of(program), (
            (0, "wrong", 0), (1, "open", 1), (1, "wrong", 0), (2, "open", 0), (2, "open", 1),
        ))
        program = (1, 0, (("do", 0, (0,)), ("mark", (0,)), ("send", (0,))))
        self.assertEqual(facts_of(program), wrong((0, 0), (1, 0), (2, 0), (3, 0)))

    def test_a_write_ends_a_fact(self):
        program = (1, 0, (("send", (0,)), ("do", 0, ()), ("send", (0,))))
        self.assertEqual(facts_of(program), wrong((0, 0), (1, 0)))

    def test_as_defined(self):
        for program, _ in samples(43, 400, most_items=14):
            self.assertEqual(facts_of(program=program), slow.held(program), program)

    def test_long_programs(self):
        for program, _ in samples(44, 20, most_items=64):
            self.assertEqual(facts_of(program), slow.held(program), program)

    def test_as_many_as_there_can_be(self):
        items = (("ask", 0),) + tuple(("do", at % 9, tuple(sorted({at % 9, (at - 1) % 9}))) for at in range(1, 64))
        program = (4, 5, items)
        told = facts_of(program)
        self.assertEqual(told, slow.held(program))
        self.assertEqual({fact for fact in told if fact[0] == 64 and fact[1] == "open"}, {
            (64, "open", cell) for cell in range(9)
        })


class TestLineage(unittest.TestCase):
    def check(self, program, fact, held, firsts):
        """held and firsts are by the slow definitions."""
        line = lineage(program, fact)
        if fact not in held:
            self.assertIsNone(line, (program, fact))
            return
        self.assertIs(type(line), tuple)
        self.assertIn(line[0], firsts)
        self.assertEqual(line[-1], fact)
        for one, two in zip(line, line[1:]):
            self.assertIn(two, slow.led(program, one), (program, fact))

    def test_a_chain(self):
        for at in range(3):
            self.assertEqual(lineage(SHORT, (at, "wrong", 0)), wrong((0, 0), (1, 0), (2, 0))[: at + 1])

    def test_none(self):
        self.assertIsNone(lineage(SHORT, (1, "open", 0)))
        self.assertIsNone(lineage((1, 1, ()), (0, "wrong", 0)))
        self.assertIsNone(lineage((1, 0, (("do", 0, ()), ("send", (0,)))), (1, "wrong", 0)))

    def test_one_of_several(self):
        program = (0, 3, (("ask", 0), ("ask", 1), ("do", 2, (0, 1)), ("send", (2,))))
        line = lineage(program, (4, "open", 2))
        self.assertEqual(line[-2:], ((3, "open", 2), (4, "open", 2)))
        self.assertIn(line[:-2], (((1, "open", 0), (2, "open", 0)), ((2, "open", 1),)))

    def test_as_defined(self):
        for program, _ in samples(45, 250, most_items=12):
            held, firsts = slow.held(program), slow.first(program)
            for fact in all_facts(program):
                self.check(program, fact, held, firsts)
        self.assertEqual(lineage(program=SHORT, fact=(0, "wrong", 0)), wrong((0, 0)))

    def test_long_programs(self):
        for program, _ in samples(46, 6, most_items=64):
            held, firsts = slow.held(program), slow.first(program)
            for fact in all_facts(program):
                self.check(program, fact, held, firsts)

    def test_a_long_line(self):
        items = (("ask", 0),) + (("do", 1, (0,)), ("do", 0, (1,))) * 31 + (("send", (0,)),)
        program = (0, 2, items)
        line = lineage(program, (64, "open", 0))
        self.check(program, (64, "open", 0), slow.held(program), slow.first(program))
        self.assertEqual(line[0], (1, "open", 0))
        self.assertEqual(len(line), 64)


class TestArguments(unittest.TestCase):
    def test_arguments_are_as_they_were_and_answers_the_same_again(self):
        for program, _ in samples(47, 60):
            before = copy.deepcopy(program)
            one = (first_facts(program), facts_of(program), leads(program, (0, "wrong", 0)))
            self.assertEqual((first_facts(program), facts_of(program), leads(program, (0, "wrong", 0))), one)
            self.assertEqual(program, before)

    def test_kinds(self):
        for program, _ in samples(48, 60):
            for told in (first_facts(program), facts_of(program), leads(program, (0, "wrong", 0))):
                self.assertIs(type(told), tuple)
                self.assertTrue(all(type(fact) is tuple and len(fact) == 3 for fact in told))


class TestInterface(unittest.TestCase):
    def test_each_function_is_defined_in_its_file(self):
        for function in (first_facts, leads, facts_of, lineage):
            self.assertEqual(function.__module__, facts.__name__)


if __name__ == "__main__":
    unittest.main()
