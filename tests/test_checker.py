import copy
import random
import unittest

from cutrows import checker
from cutrows.checker import first_fault
from cutrows.claims import decide

import slow_checker
from mutants import as_list, as_truth, mutant, with_more_entries, with_one_part_changed
from samples import all_claims, small_plan_programs, some_prices

SHORT = (1, 0, (("do", 0, (0,)), ("send", (0,))))
SAFE = (1, 1, (("do", 1, (0,)), ("mark", (1,)), ("do", 0, (1,)), ("send", (0,))))
# A safe program with many facts, and all of them.
TABLED = (1, 2, (
    ("ask", 1), ("do", 2, (1,)), ("mark", (2,)), ("do", 0, (2,)), ("mark", (0, 2)), ("send", (0, 2)), ("mark", (0,)),
))
ONES = (1,) * 11
WORDS = (
    "claim", "form", "first", "bad", "there", "lead", "good", "place", "shape", "way", "lack", "written", "sent", "late",
    "allowed", "price", "level", "pair",
)


def wrong(*pairs):
    return tuple((position, "wrong", cell) for position, cell in pairs)


def opened(*pairs):
    return tuple((position, "open", cell) for position, cell in pairs)


class Checks(unittest.TestCase):
    """A base for the tests of each claim: they set program, claim and word, and then tell proofs."""

    program, claim, word, prices = SHORT, ("safe",), "shown", ONES

    def fault(self, proof):
        certificate = (self.word, self.claim, proof)
        before = copy.deepcopy(certificate)
        told = first_fault(self.program, certificate, prices=self.prices)
        self.assertEqual(repr(certificate), repr(before))
        return told

    def right(self, proof):
        self.assertIsNone(self.fault(proof), proof)

    def wrong(self, proof, *fault):
        self.assertEqual(self.fault(proof), fault, proof)

    def of_no_form(self, *proofs):
        for proof in proofs + (None, True, 0, "", "shown", [], {}, [[]], ([],), ({},), ((), (), (), ())):
            self.wrong(proof, "form")


class TestCertificates(Checks):
    def test_the_example(self):
        self.assertEqual(first_fault(SHORT, ("shown", ("safe",), ())), ("first", (0, "wrong", 0)))

    def test_what_is_no_triple(self):
        for value in (None, True, 0, 3, "abc", (), (1,), ("shown", ("safe",)), [], {}, ("shown", ("safe",), (), ())):
            self.assertEqual(first_fault(SHORT, value), ("form",), value)
        self.assertEqual(first_fault(SAFE, ["shown", ("safe",), ()]), ("form",))
        self.assertEqual(first_fault(SAFE, {0: "shown", 1: ("safe",), 2: ()}), ("form",))

    def test_claims_that_are_none(self):
        for claim in (
            None, 0, "safe", "abc", (), [], {}, ["safe"], ("Safe",), ("safe", 0), ("safe", ()), (("safe",),), (None,),
            ("sure",), ("sure", 0), ("sure", 0, 1), ("sure", 3, 0), ("sure", -1, 0), ("sure", 0, -1), ("sure", 0, True),
            ("sure", False, 0), ("sure", 0, 0, 0), ("sure", "0", 0), ("matters", 0, False), ("matters", 10**29, 0),
            ("matters", [0], 0), ("price",), ("price", -1), ("price", 100000), ("price", True), ("price", 0, 0),
            ("price", 0, 1), ("price", (0,)), ("allowed", 0), ("allowed", 0, 0), ("allowed", 1, 0), ("allowed", 0, 3),
            ("allowed", 0, 5), ("allowed", 0, 6), ("allowed", -1, 2), ("allowed", False, 1), ("allowed", 0, True),
            ("allowed", (0,), 4), ("allowed", 0, 1, 2), ("open", 0, 0), ("do", 0, ()),
        ):
            for word in ("shown", "broken", "none", None, ()):
                self.assertEqual(first_fault(SHORT, (word, claim, ())), ("claim",), claim)

    def test_claims_that_are_not_valid_for_great_programs(self):
        many = (("do", 0, (0,)),) * 17
        for program in ((1, 0, many), (1, 5, many[:16]), (1, 5, many)):
            for claim in (("price", 0), ("allowed", 0, 2)):
                for word in ("shown", "broken", "other"):
                    self.assertEqual(first_fault(program, (word, claim, ())), ("claim",))
            for claim in (("safe",), ("sure", 17, 0), ("matters", 0, 0)):
                if claim[1:2] < (len(program[2]) + 1,):
                    self.assertNotEqual(first_fault(program, ("shown", claim, ())), ("claim",))
        self.assertIsNone(first_fault((4, 4, many[:16] + (("mark", ()),) * 48), decide((4, 4, many[:16]), ("price", 0))))

    def test_words_that_are_none(self):
        for word in (None, True, 0, "", "Shown", "show", (), ("shown",), ["shown"], {}):
            self.assertEqual(first_fault(SAFE, (word, ("safe",), ())), ("form",), word)

    def test_by_name_and_with_prices_by_name_only(self):
        certificate = decide(SHORT, ("price", 3))
        self.assertIsNone(first_fault(certificate=certificate, program=SHORT))
        self.assertEqual(first_fault(prices=(2,) * 11, certificate=certificate, program=SHORT), ("price",))
        self.assertRaises(TypeError, first_fault, SHORT, certificate, ONES)
        self.assertEqual(first_fault.__module__, checker.__name__)


class TestSafeShown(Checks):
    program = TABLED
    opens = opened((1, 1), (2, 1), (2, 2))
    wrongs = wrong((3, 0), (3, 1), (4, 1), (5, 1), (6, 1), (7, 1), (7, 2))
    table = opens + wrongs

    def with_more(self, *facts):
        return tuple(sorted(self.table + facts))

    def test_all_that_holds(self):
        self.assertEqual(decide(TABLED, ("safe",)), ("shown", ("safe",), self.table))
        self.right(self.table)

    def test_each_entry_that_lacks(self):
        self.wrong((), "first", (1, "open", 1))
        self.wrong(self.opens, "first", (3, "wrong", 0))
        faults = (
            ("first", (1, "open", 1)), ("lead", 0), ("lead", 0), ("first", (3, "wrong", 0)), ("first", (3, "wrong", 1)),
            ("lead", 4), ("first", (5, "wrong", 1)), ("lead", 6), ("first", (7, "wrong", 1)), ("first", (7, "wrong", 2)),
        )
        for k, fault in enumerate(faults):
            self.wrong(self.table[:k] + self.table[k + 1:], *fault)

    def test_more_than_holds(self):
        self.right(self.with_more((4, "open", 0)))
        self.right(self.with_more((7, "open", 1), (7, "wrong", 0)))
        self.right(self.with_more((0, "open", 1), (0, "wrong", 1)))
        self.wrong(self.with_more((0, "wrong", 2), (0, "wrong", 0)), "lead", 0)
        self.wrong(self.with_more((3, "open", 2)), "lead", 3)
        self.wrong(self.with_more((3, "open", 2), (4, "open", 0)), "lead", 3)
        self.right(self.with_more((3, "open", 2), (4, "open", 0), (4, "open", 2)))

    def test_bad_ones(self):
        # At its entry, a bad one is told before what it leads to.
        self.wrong(self.with_more((5, "open", 2)), "bad", 6)
        self.wrong(self.with_more((5, "wrong", 0)), "bad", 6)
        self.wrong(self.with_more((5, "wrong", 2), (6, "wrong", 2), (7, "wrong", 2)), "form")
        self.wrong(self.with_more((5, "wrong", 2), (6, "wrong", 2)), "bad", 7)
        self.wrong(self.with_more((4, "wrong", 0)), "lead", 5)
        self.wrong(self.with_more((4, "wrong", 0), (5, "wrong", 0)), "bad", 7)

    def test_of_a_program_that_is_not_safe(self):
        self.program = SHORT
        self.wrong((), "first", (0, "wrong", 0))
        self.wrong(wrong((0, 0)), "lead", 0)
        self.wrong(wrong((0, 0), (1, 0)), "bad", 1)
        self.wrong(wrong((0, 0), (1, 0), (2, 0)), "bad", 1)

    def test_without_facts(self):
        self.program = (2, 2, (("send", (0, 3)), ("mark", ())))
        self.right(())
        self.right(wrong((2, 3)))
        self.wrong(wrong((0, 3)), "bad", 0)
        self.wrong(wrong((0, 2)), "lead", 0)
        self.program = (1, 0, ())
        self.right(())
        self.right(((0, "open", 0), (0, "wrong", 0)))

    def test_forms(self):
        table = self.table
        self.of_no_form(
            list(table), table[::-1], table + table[-1:], (table,), (0, "wrong", 0), ((0, "wrong"),), ((0, "wrong", 0, 0),),
            ([0, "wrong", 0],), ((0, "bad", 0),), ((0, 0, "wrong"),), ((-1, "wrong", 0),), ((8, "wrong", 0),),
            ((0, "wrong", 3),), ((0, "wrong", -1),), ((False, "wrong", 0),), ((0, "wrong", False),), ((1, "wrong", True),),
            ((0, None, 0),), ((0, ["wrong"], 0),), (("0", "wrong", 0),), ((0, "wrong", 10**29),), (None,), ((),),
            (table[0], (0, "open", 0)), (table[0], table[0]), ((0, "wrong", 0),) * 5000,
            table[:3] + ((3, "wrong", False),) + table[4:], table[:1] + (None,) + table[1:],
        )


class TestSafeBroken(Checks):
    word = "broken"

    def test_right_ones(self):
        self.right(((1, (1,)),))
        self.right(((2, (1,)),) * 8)
        self.right(((0, (0,)), (64, (64,))))

    def test_good_runs(self):
        self.wrong((), "good")
        self.wrong(((1, (0,)),), "good")
        self.wrong(((0, (64,)),) * 8, "good")
        self.program = SAFE
        self.wrong(((4, (1,)), (1, (1,))), "good")

    def test_forms(self):
        pair = (1, (1,))
        self.of_no_form(
            (pair,) * 9, [pair], (list(pair),), pair, ((1,),), ((1, (1,), 0),), ((1, 1),), ((1, [1]),), ((1, ()),),
            ((1, (1, 1)),), ((65, (1,)),), ((-1, (1,)),), ((True, (1,)),), ((1, (True,)),), ((1, (65,)),), ((1, (-1,)),),
            ((None, (1,)),), ((10**29, (1,)),), ((1, (10**29,)),), (pair, None), (pair, ((1,), 1)),
        )
        self.program = (0, 1, (("ask", 0), ("send", (0,))))
        self.right(((2, ()),))
        self.of_no_form(((2, (0,)),))


class TestSure(Checks):
    program, claim = SHORT, ("sure", 0, 0)

    def test_tables(self):
        self.program, self.claim = TABLED, ("sure", 4, 0)
        table = TestSafeShown.wrongs
        self.assertEqual(decide(TABLED, self.claim), ("shown", self.claim, table))
        self.right(table)
        self.wrong((), "first", (3, "wrong", 0))
        self.wrong(table[1:], "first", (3, "wrong", 0))
        self.wrong(table[:5] + table[6:], "first", (7, "wrong", 1))
        self.wrong(table[:2] + table[3:], "lead", 1)
        self.wrong(table[:4] + table[5:], "lead", 3)
        self.wrong(tuple(sorted(table + wrong((4, 2)))), "lead", 3)

    def test_the_one_that_must_lack(self):
        self.program, self.claim = TABLED, ("sure", 4, 0)
        table = TestSafeShown.wrongs
        # At its entry, it is told before what it leads to.
        self.wrong(tuple(sorted(table + wrong((4, 0)))), "there", 2)
        self.wrong(tuple(sorted(table + wrong((4, 0), (5, 0), (6, 0), (7, 0)))), "there", 2)
        self.right(tuple(sorted(table + wrong((5, 0), (6, 0), (7, 0)))))
        self.right(wrong((2, 0)) + table)
        self.wrong(wrong((1, 0)) + table, "lead", 0)

    def test_bad_ones_may_be_in_it(self):
        self.program, self.claim = (2, 0, SHORT[2]), ("sure", 2, 1)
        self.right(wrong((0, 0), (1, 0), (2, 0)))
        self.wrong(wrong((0, 0), (1, 0), (2, 0), (2, 1)), "there", 3)
        self.claim = ("sure", 1, 0)
        self.wrong(wrong((0, 0), (1, 0), (2, 0)), "there", 1)
        self.wrong(wrong((0, 0), (1, 0)), "there", 1)

    def test_open_ones_are_no_matter(self):
        self.program, self.claim = (0, 1, (("ask", 0), ("send", (0,)))), ("sure", 2, 0)
        self.right(())
        self.of_no_form(opened((1, 0), (2, 0)), opened((1, 0)))

    def test_forms_of_tables(self):
        table = wrong((0, 0), (1, 0), (2, 0))
        self.of_no_form(
            list(table), table[::-1], table + table[-1:], ([0, "wrong", 0],), wrong((0, True)), wrong((3, 0)),
            wrong((0, 1)), ((0, "wrong"),), wrong((True, 0)), wrong((-1, 0)),
        )

    def test_cuts(self):
        self.word, self.claim = "broken", ("sure", 1, 0)
        self.right((((1, (1,)),), 1))
        self.wrong((((1, (0,)),), 1), "shape")
        self.wrong(((), 1), "shape")
        self.wrong((((1, (1,)),), 0), "place")
        self.wrong((((1, (1,)),), 2), "place")
        self.wrong((((1, (0,)),), 0), "place")

    def test_a_count_of_more_than_remain(self):
        self.word, self.claim = "broken", ("sure", 2, 0)
        self.right((((1, (1,)),), 2))
        self.wrong((((1, (1,)),), 3), "place")
        self.wrong((((1, (1,)),), 64), "place")
        self.wrong(((), 2), "shape")

    def test_another_number_of_the_same_shape(self):
        self.program, self.claim, self.word = (0, 1, (("ask", 0), ("send", (0,)))), ("sure", 1, 0), "broken"
        self.wrong((((1, ()),), 1), "shape")
        self.wrong((((2, ()),) * 8, 1), "shape")

    def test_a_lost_loose_cell(self):
        self.program, self.word = (0, 2, (("do", 0, ()), ("mark", ()), ("do", 1, (0,)))), "broken"
        self.claim = ("sure", 3, 1)
        self.right((((2, ()),), 1))
        self.wrong((((1, ()),), 3), "shape")
        self.wrong((((2, ()),), 2), "place")

    def test_forms_of_cuts(self):
        self.word, self.claim = "broken", ("sure", 1, 0)
        pair = (1, (1,))
        self.of_no_form(
            ((pair,) * 9, 1), ((pair,), 65), ((pair,), -1), ((pair,), True), ((pair,), "1"), ((pair,), None), ((pair,),),
            ((pair,), 1, 1), [(pair,), 1], ([pair], 1), (pair, 1), (((True, (1,)),), 1), (((1, (True,)),), 1), (pair,),
            (((1, ()),), 1), ((pair,), 10**29), (1, (pair,)),
        )


class TestMatters(Checks):
    program = (1, 3, (
        ("do", 1, (0,)), ("do", 2, (1,)), ("ask", 1), ("mark", (2,)), ("do", 3, (1, 2)), ("send", (3,)), ("send", (0, 2)),
    ))
    claim = ("matters", 0, 0)

    def test_ways(self):
        self.right((0, 1, 4, 5))
        self.right((0, 1, 6))
        self.right((6,))

    def test_the_first_wrong_index(self):
        self.wrong((5,), "way", 0)
        self.wrong((0, 1, 4, 6), "way", 3)
        self.wrong((0, 4, 5), "way", 1)
        self.wrong((0, 1, 5), "way", 2)
        self.wrong((0, 1, 4), "way", 2)
        self.wrong((0, 1, 5, 6), "way", 2)
        self.wrong((4, 5), "way", 0)
        self.wrong((2, 6), "way", 0)
        self.wrong((3, 6), "way", 0)
        self.wrong((0, 1, 3, 6), "way", 2)
        self.wrong((0,), "way", 0)

    def test_before_the_position(self):
        self.claim = ("matters", 1, 0)
        self.right((6,))
        self.wrong((0, 1, 6), "way", 0)
        self.claim = ("matters", 1, 1)
        self.right((1, 6))
        self.wrong((0, 1, 6), "way", 0)
        self.claim = ("matters", 7, 2)
        self.wrong((6,), "way", 0)

    def test_a_write_between(self):
        self.claim = ("matters", 0, 1)
        self.wrong((1, 6), "way", 0)
        self.claim = ("matters", 2, 1)
        self.wrong((4, 5), "way", 0)
        self.program, self.claim = (0, 2, (("do", 1, (0,)), ("do", 1, (1,)), ("do", 1, ()), ("send", (1,)))), ("matters", 0, 0)
        self.wrong((0, 3), "way", 1)
        self.wrong((0, 1, 3), "way", 2)

    def test_forms_of_ways(self):
        self.of_no_form(
            (), (6, 0), (0, 0), (0, 1, 1, 6), (7,), (-1, 6), (True, 6), (False, 1, 6), [6], 6, ("6",), ((6,),), (0, None),
            (10**29,), (6, 7), tuple(range(7)) + (10**29,),
        )
        self.program, self.claim = (1, 0, ()), ("matters", 0, 0)
        self.of_no_form((), (0,))

    def test_plain_tables(self):
        self.word, self.claim = "broken", ("matters", 2, 1)
        table = decide(self.program, self.claim)[2]
        self.assertEqual(table, (
            (2, 0), (2, 2), (3, 0), (3, 1), (3, 2), (4, 0), (4, 1), (4, 2), (5, 0), (5, 2), (5, 3), (6, 0), (6, 2),
        ))
        self.right(table)
        self.wrong(table[:1] + ((2, 1),) + table[1:], "there")
        for pair in table:
            less = tuple(other for other in table if other != pair)
            self.wrong(less, "lack", *pair)
        self.wrong((), "lack", 6, 0)
        self.wrong(((2, 1),), "there")
        self.wrong(table[:2], "lack", 6, 0)
        self.wrong(table[:-1], "lack", 6, 2)
        self.wrong(table[5:], "lack", 3, 0)
        self.wrong(table[:5] + table[6:7] + table[8:], "lack", 4, 0)

    def test_plain_tables_with_more_than_matters(self):
        self.word, self.claim = "broken", ("matters", 2, 1)
        table = decide(self.program, self.claim)[2]
        more = tuple(sorted(set(table) | {(2, 3), (3, 3), (4, 3)}))
        self.right(more)
        self.wrong(tuple(sorted(set(more) | {(7, 1)})), "lack", 6, 1)
        self.wrong(tuple(sorted(set(table) | {(7, 3)})), "lack", 6, 3)
        every = tuple((p, c) for p in range(3, 8) for c in range(4))
        self.right(((2, 0), (2, 2), (2, 3)) + every)
        self.wrong(((2, 0), (2, 3)) + every, "lack", 2, 2)
        self.wrong(((2, 0), (2, 1), (2, 3)) + every, "there")

    def test_plain_tables_at_the_last_position(self):
        self.word, self.claim = "broken", ("matters", 7, 2)
        self.right(())
        self.right(((7, 0), (7, 1)))
        self.wrong(((7, 2),), "there")
        self.program, self.claim = (1, 1, ()), ("matters", 0, 1)
        self.right(())
        self.right(((0, 0),))

    def test_forms_of_plain_tables(self):
        self.word, self.claim = "broken", ("matters", 2, 1)
        table = decide(self.program, self.claim)[2]
        self.of_no_form(
            list(table), table[::-1], table + table[-1:], ((1, 0),) + table, table + ((8, 0),), ((2, 4),), ((2, -1),),
            ([2, 0],) + table[1:], ((2, False),) + table[1:], ((3, True),), ((2,),), ((2, 0, 0),), ((2, "0"),),
            ((2, "wrong", 0),), (2, 0), ((10**29, 0),), ((None, 0),),
        )


class TestAllowed(Checks):
    # In it, item 2 alone has a middle: the places are 0, 2, 4, 5, 6, 8, 10.
    program = (2, 2, (("ask", 2), ("do", 3, (2,)), ("do", 0, (0, 3)), ("do", 1, ()), ("send", (0, 1))))
    claim = ("allowed", 0, 5)

    def test_tables(self):
        plain, opens = self.proof()
        # The split program is ask 2, do 3 (2), do 4 (0, 3), do 0 (4), do 1 (), send (0, 1); its stretch ends at 3.
        self.assertEqual(plain, ((0, 0), (1, 0), (1, 2), (2, 0), (2, 3), (3, 4), (4, 0), (5, 0), (5, 1)))
        self.assertEqual(opens, opened((1, 2), (2, 2), (2, 3), (3, 2), (3, 3), (3, 4)))
        self.right((plain, opens))

    def proof(self):
        word, claim, proof = decide(self.program, self.claim)
        self.assertEqual((word, claim), ("shown", self.claim))
        return proof

    def test_faults_of_the_plain_table(self):
        plain, opens = self.proof()
        for pair in plain:
            self.wrong((tuple(other for other in plain if other != pair), opens), "lack", *pair)
        self.wrong(((), ()), "lack", 5, 0)
        self.wrong((plain[1:], ()), "lack", 0, 0)
        # No item of the stretch writes a kept cell, so any may be there.
        self.right((tuple(sorted(plain + ((0, 1),))), opens))

    def test_kept_cells_that_must_lack(self):
        self.claim = ("allowed", 5, 8)
        plain, opens = self.proof()
        self.assertEqual((plain, opens), (((3, 4), (4, 0), (5, 0), (5, 1)), ()))
        self.wrong((((3, 0),) + plain, opens), "there", 0)
        self.wrong((((3, 0), (3, 1)) + plain, opens), "there", 0)
        self.wrong((((3, 1),) + plain, opens), "there", 1)
        self.wrong((((3, 1),), ()), "there", 1)
        self.right((((3, 2),) + plain, opens))
        self.claim = ("allowed", 6, 8)
        plain, opens = self.proof()
        self.assertEqual(plain, ((3, 0), (4, 0), (4, 1)))
        self.wrong((((3, 0), (3, 1), (4, 0), (4, 1)), opens), "there", 1)

    def test_faults_of_the_open_table(self):
        plain, opens = self.proof()
        self.wrong((plain, ()), "first", (1, "open", 2))
        self.wrong((plain, opens[1:]), "first", (1, "open", 2))
        self.wrong((plain, opens[:1]), "lead", 0)
        self.wrong((plain, opens[:2] + opens[3:]), "lead", 0)
        self.wrong((plain, opens[:3] + opens[4:]), "lead", 1)
        self.wrong((plain, opens[:5]), "lead", 2)
        # At the end of the stretch they lead to none.
        self.right((plain, tuple(sorted(opens + opened((3, 0))))))
        self.wrong((plain, tuple(sorted(opens + opened((2, 0))))), "lead", 1)

    def test_bad_open_ones(self):
        self.program = (0, 2, (("ask", 0), ("do", 1, ()), ("send", (1,)), ("send", (0,))))
        self.claim = ("allowed", 0, 6)
        plain, opens = self.proof()
        self.assertEqual(opens, opened((1, 0), (2, 0), (3, 0)))
        self.right((plain, opens))
        self.wrong((plain, tuple(sorted(opens + opened((2, 1))))), "bad", 2)
        self.wrong((plain, tuple(sorted(opens + opened((2, 1), (3, 1))))), "bad", 2)
        # Only what is sent within the stretch is bad.
        self.right((plain, tuple(sorted(opens + opened((3, 1))))))

    def test_forms_of_tables(self):
        plain, opens = self.proof()
        self.of_no_form(
            plain, (plain,), (opens, plain), (plain, opens, ()), [plain, opens], (list(plain), opens), (plain, list(opens)),
            (plain[::-1], opens), (plain, opens[::-1]), (plain + plain[-1:], opens), (plain, opens + opens[-1:]),
            (plain, wrong((1, 2))), (plain, opened((0, 2)) + opens), (plain, opens + opened((4, 2))),
            (plain, opens + opened((3, 5))), (plain + ((7, 0),), opens), (plain + ((6, 5),), opens),
            (((0, False),) + plain[1:], opens), (plain, opened((True, 2)) + opens[1:]), (plain, ((1, 2),)),
            (plain, ((1, "open"),)), (plain, None), (None, opens), ((0, 0), opens),
        )
        self.claim = ("allowed", 4, 6)
        self.of_no_form((((1, 0),) + plain[3:], ()), (plain[3:], opened((2, 0))), (plain[3:], opened((4, 0))))

    def test_written(self):
        self.word, self.claim = "broken", ("allowed", 0, 6)
        self.assertEqual(decide(self.program, self.claim), ("broken", self.claim, ("written", 2, (2, 4))))
        self.right(("written", 2, (2, 4)))
        for item in (0, 1, 3, 4):
            self.wrong(("written", item, (2, 4)), "written")
        self.wrong(("written", 3, (4,)), "written")
        self.wrong(("written", 2, (4,)), "way", 0)
        self.wrong(("written", 2, (1, 4)), "way", 0)
        self.wrong(("written", 2, (2, 3)), "way", 1)
        self.claim = ("allowed", 6, 8)
        self.wrong(("written", 3, (4,)), "way", 0)
        self.wrong(("written", 2, (4,)), "written")
        self.claim = ("allowed", 2, 8)
        self.right(("written", 2, (2, 4)))
        self.wrong(("written", 3, (4,)), "way", 0)
        self.wrong(("written", 2, (0, 4)), "way", 0)

    def test_written_in_the_split_program(self):
        self.word, self.claim = "broken", ("allowed", 0, 5)
        # The first half of the item that is split writes the hand, and the second one is none of the stretch.
        self.wrong(("written", 2, (2, 3, 5)), "written")
        self.wrong(("written", 3, (2, 3, 5)), "written")
        self.claim = ("allowed", 5, 6)
        self.wrong(("written", 3, (3, 5)), "way", 0)
        self.wrong(("written", 2, (3, 5)), "written")

    def test_sent(self):
        self.program = (1, 2, (("ask", 1), ("do", 2, (1,)), ("send", (2,)), ("ask", 2), ("send", (1,))))
        self.word, self.claim = "broken", ("allowed", 0, 6)
        self.right(("sent", 0, (1, 2)))
        self.wrong(("sent", 0, (4,)), "late")
        self.wrong(("sent", 3, (4,)), "sent")
        self.wrong(("sent", 1, (2,)), "sent")
        self.wrong(("sent", 0, (2,)), "way", 0)
        self.wrong(("sent", 0, (1, 4)), "way", 1)
        self.wrong(("sent", 0, (0, 2)), "way", 0)
        self.claim = ("allowed", 2, 10)
        self.wrong(("sent", 0, (1, 2)), "sent")
        self.wrong(("sent", 3, (4,)), "way", 0)
        self.claim = ("allowed", 0, 10)
        self.right(("sent", 0, (4,)))
        self.right(("sent", 0, (1, 2)))

    def test_late_is_told_of_the_last_index(self):
        self.program = (0, 3, (("ask", 0), ("do", 1, (0,)), ("send", (2,)), ("send", (1,))))
        self.word, self.claim = "broken", ("allowed", 0, 6)
        self.wrong(("sent", 0, (1, 3)), "late")
        self.wrong(("sent", 0, (1, 2)), "way", 1)
        self.claim = ("allowed", 0, 8)
        self.right(("sent", 0, (1, 3)))

    def test_forms_of_what_breaks_it(self):
        self.word, self.claim = "broken", ("allowed", 0, 6)
        self.of_no_form(
            ("written", 2), ("written", 2, (2, 4), 0), ["written", 2, (2, 4)], ("write", 2, (2, 4)), (None, 2, (2, 4)),
            (["written"], 2, (2, 4)), ("written", "2", (2, 4)), ("written", True, (2, 4)), ("written", -1, (2, 4)),
            ("written", 5, (2, 4)), ("written", None, (2, 4)), ("written", 2, ()), ("written", 2, (4, 2)),
            ("written", 2, [2, 4]), ("written", 2, (2, 2)), ("written", 2, (2, 5)), ("written", 2, (True, 4)),
            ("written", 2, 4), ("sent", 5, (4,)), ("sent", 0, ()), ("sent", False, (4,)), (2, "written", (2, 4)),
            ("written", 10**29, (2, 4)), ("sent", 0, (10**29,)),
        )
        # With a middle, the split program has an item more.
        self.claim = ("allowed", 0, 5)
        self.wrong(("written", 5, (5,)), "written")
        self.of_no_form(("written", 6, (5,)), ("written", 5, (6,)))


class TestPrice(Checks):
    # The example: the places are 0, 1, 2, 4, the stretches 0 to 2 and 0 to 4 are not allowed.
    program, claim = SHORT, ("price", 3)
    levels = (0, 3, 5, 3)

    def test_right_ones(self):
        self.right(((1,), self.levels))
        self.right(((1,), (0, 3, 4, 3)))
        self.right(((1,), (0, 3, 3, 3)))
        self.assertEqual(decide(SHORT, self.claim), ("shown", self.claim, ((1,), self.levels)))

    def test_plans(self):
        self.wrong(((), self.levels), "allowed", 0)
        self.wrong(((2,), self.levels), "allowed", 0)
        self.wrong(((1, 2), self.levels), "price")
        self.wrong(((), (9, 9, 9, 9)), "allowed", 0)
        self.wrong(((1, 2), (9, 9, 9, 9)), "price")
        self.program = (1, 1, (("do", 0, (0, 1)), ("send", (0,)), ("do", 0, (0, 1)), ("send", (0,))))
        self.wrong(((1, 2, 4), (0,) * 7), "allowed", 4)
        self.wrong(((2, 4), (0,) * 7), "allowed", 0)

    def test_levels(self):
        self.wrong(((1,), (1, 3, 5, 3)), "level", 0)
        self.wrong(((1,), (1, 3, 5, 4)), "level", 0)
        self.wrong(((1,), (0, 3, 5, 4)), "level", 4)
        self.wrong(((1,), (0, 3, 5, 2)), "level", 4)
        self.wrong(((1,), (0, 4, 5, 3)), "pair", 0, 1)
        self.wrong(((1,), (0, 4, 9, 3)), "pair", 0, 1)
        self.wrong(((1,), (0, 3, 6, 3)), "pair", 1, 2)
        self.wrong(((1,), (0, 2, 5, 3)), "pair", 1, 2)
        self.wrong(((1,), (0, 2, 4, 3)), "pair", 1, 4)

    def test_levels_at_the_end_follow_all_allowed_stretches(self):
        # From 2 to the end costs nothing, so the level of the end is at most that of 2.
        self.wrong(((1,), (0, 3, 2, 3)), "pair", 2, 4)
        self.wrong(((1,), (0, 3, 0, 3)), "pair", 2, 4)

    def test_less(self):
        self.word, self.claim = "broken", ("price", 4)
        self.right(("less", (1,)))
        self.wrong(("less", (1, 2)), "price")
        self.wrong(("less", ()), "allowed", 0)
        self.claim = ("price", 3)
        self.wrong(("less", (1,)), "price")
        self.claim = ("price", 99999)
        self.right(("less", (1, 2)))

    def test_more(self):
        self.word, self.claim = "broken", ("price", 2)
        self.right(("more", self.levels))
        self.wrong(("more", (1, 3, 5, 3)), "level", 0)
        self.wrong(("more", (0, 2, 4, 2)), "level", 4)
        self.wrong(("more", (1, 2, 4, 2)), "level", 0)
        self.wrong(("more", (0, 4, 5, 4)), "pair", 0, 1)
        self.wrong(("more", (0, 3, 5, 4)), "pair", 1, 4)
        self.claim = ("price", 3)
        self.wrong(("more", self.levels), "level", 4)

    def test_no_items(self):
        self.program, self.claim = (1, 0, (("mark", ()),)), ("price", 0)
        self.right(((), (0,)))
        self.wrong(((), (1,)), "level", 0)
        self.of_no_form(((0,), (0,)), ((), ()), ((), (0, 0)))
        self.claim = ("price", 1)
        self.wrong(((), (0,)), "price")
        self.word = "broken"
        self.right(("less", ()))
        self.wrong(("more", (2,)), "level", 0)
        self.wrong(("more", (0,)), "level", 0)

    def test_with_other_prices(self):
        self.prices = (99, 0) + (7,) * 9
        self.wrong(((1,), self.levels), "price")
        self.claim = ("price", 106)
        self.right(((1,), (0, 106, 212, 106)))
        self.wrong(((1,), (0, 106, 213, 106)), "pair", 1, 2)

    def test_forms(self):
        self.of_no_form(
            (1,), ((1,),), ((1,), self.levels, ()), [(1,), self.levels], ([1], self.levels), ((1,), list(self.levels)),
            ((0, 1), self.levels), ((1, 4), self.levels), ((3,), self.levels), ((2, 1), self.levels),
            ((1, 1), self.levels), ((True,), self.levels), (1, self.levels), ((1,), (0, 3, 5)), ((1,), (0, 3, 5, 3, 3)),
            ((1,), (False, 3, 5, 3)), ((1,), (0, 3, 5, -1)), ((1,), (0, 3, 100000, 3)), ((1,), (0, 3, "5", 3)),
            ((1,), 0), (self.levels, (1,)), ((-1,), self.levels), ((1, 10**29), self.levels), (("1",), self.levels),
            ("less", (1,)), ("more", self.levels), ((1,) * 19000, self.levels), ((1,), (0,) * 19000),
        )
        self.word = "broken"
        self.of_no_form(
            ((1,), self.levels), ("less",), ("less", (1,), 0), ["less", (1,)], ("less", [1]), ("less", self.levels),
            ("more", (1,)), ("more", list(self.levels)), ("most", self.levels), (None, (1,)), (["less"], (1,)),
            ("less", (True,)), ("more", (False, 3, 5, 3)), ("more", (0, 3, 5, 10**29)), ("less", (0,)), ("less", (4,)),
        )


class TestAgainstTheSecondChecker(unittest.TestCase):
    def compare(self, program, certificate, prices):
        told = first_fault(program, certificate, prices=prices)
        self.assertEqual(told, slow_checker.first_fault(program, certificate, prices), (program, certificate, prices))
        self.assertIn(None if told is None else told[0], WORDS + (None,))
        return told

    def some_change(self, chance, program, certificate):
        way = chance.random()
        if way < 0.2:
            return with_more_entries(chance, program, certificate)
        if way < 0.4:
            return mutant(chance, mutant(chance, certificate))
        return mutant(chance, certificate)

    def test_right_and_changed_certificates(self):
        chance = random.Random(111)
        seen = set()
        for program in small_plan_programs(112, 90, most_items=4):
            prices = some_prices(chance)
            for claim in all_claims(program, prices):
                if chance.random() < 0.3:
                    right = decide(program, claim, prices=prices)
                    self.assertIsNone(self.compare(program, right, prices))
                    for _ in range(8):
                        other = self.some_change(chance, program, right)
                        fault = self.compare(program, other, prices)
                        seen.add(fault and fault[0])
                        # At no time both words have certificates that are accepted.
                        if fault is None:
                            self.assertEqual(decide(program, other[1], prices=prices)[0], other[0])
        self.assertLessEqual(set(WORDS) - {"late"}, seen)
        self.assertIn(None, seen)

    def test_proofs_of_other_programs_and_claims(self):
        chance = random.Random(113)
        proofs, programs = [], list(small_plan_programs(114, 40, most_items=4))
        for program in programs:
            for claim in all_claims(program, ONES):
                proofs.append(decide(program, claim)[2])
        for program in programs:
            for claim in all_claims(program, ONES):
                for proof in chance.choices(proofs, k=3):
                    for word in ("shown", "broken"):
                        self.compare(program, (word, claim, proof), ONES)

    def test_truths_and_lists_are_never_accepted(self):
        for program in small_plan_programs(115, 25, most_items=3):
            for claim in all_claims(program, ONES):
                right = decide(program, claim)
                for change in (as_truth, as_list):
                    for other in with_one_part_changed(right, change):
                        expected = ("claim",) if repr(other[1]) != repr(claim) else ("form",)
                        self.assertEqual(first_fault(program, other), expected, (program, other))


class TestAnyValue(unittest.TestCase):
    def test_great_and_deep_values(self):
        deep = 0
        for _ in range(36):
            deep = (deep,)
        for program in (SHORT, SAFE, TABLED):
            for claim in all_claims(program, ONES):
                for part in (deep, (deep, deep), ("written", deep, deep), (0,) * 19000, ((0, 0),) * 6000, "x" * 20000):
                    for word in ("shown", "broken"):
                        self.assertEqual(first_fault(program, (word, claim, part)), ("form",))
                self.assertEqual(first_fault(program, ("shown", deep, ())), ("claim",))
                self.assertEqual(first_fault(program, (deep, claim, ())), ("form",))
                self.assertEqual(first_fault(program, deep), ("form",))

    def test_tables_with_as_many_facts_as_there_are(self):
        items = (("do", 0, (1, 2, 3)),) * 63 + (("mark", ()),)
        program = (4, 5, items)
        every = tuple((p, word, c) for p in range(65) for word in ("open", "wrong") for c in range(9))
        self.assertIsNone(first_fault(program, ("shown", ("safe",), every)))
        self.assertEqual(first_fault(program, ("shown", ("safe",), every + every)), ("form",))
        self.assertEqual(first_fault(program, ("shown", ("safe",), every + ((65, "open", 0),))), ("form",))
        sends = (4, 5, items[:63] + (("send", (8,)),))
        fault = first_fault(sends, ("shown", ("safe",), every))
        self.assertEqual(fault, ("bad", every.index((63, "open", 8))))
        plain = tuple((p, c) for p in range(65) for c in range(9) if (p, c) != (0, 8))
        self.assertEqual(first_fault(sends, ("broken", ("matters", 0, 8), plain)), ("lack", 0, 8))


if __name__ == "__main__":
    unittest.main()
