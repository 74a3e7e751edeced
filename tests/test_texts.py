import copy
import random
import re
import unittest

from cutrows import texts
from cutrows.errors import InvalidProgram, ParseError
from cutrows.programs import require_program
from cutrows.texts import format_cuts, format_program, parse_cuts, parse_program

from samples import samples

SHORT = (1, 0, (("do", 0, (0,)), ("send", (0,))))
ALL = (1, 2, (
    ("do", 0, (1, 2)), ("do", 0, ()), ("ask", 1), ("send", (0, 2)), ("mark", (0, 2)), ("mark", ()), ("do", 2, (0, 1, 2)),
))
LINES = (
    "kept 1 loose 2", "do 0 from 1 2", "do 0", "ask 1", "send 0 2", "mark 0 2", "mark", "do 2 from 0 1 2",
)
FIGURE = r"(?:0|[1-9][0-9]*)"
ITEM = re.compile(
    rf"do {FIGURE}(?: from(?: {FIGURE}){{1,3}})?|ask {FIGURE}|send(?: {FIGURE}){{1,3}}|mark(?: {FIGURE})*"
)


def text_of(lines):
    return "".join(line + "\n" for line in lines)


def slow_item(line):
    """The item that a line tells, whatever its cells are, or None."""
    if not ITEM.fullmatch(line):
        return None
    word = line.split(" ")[0]
    numbers = tuple(int(figures[:9]) for figures in re.findall("[0-9]+", line))
    if word == "do":
        return (word, numbers[0], numbers[1:])
    return (word, numbers[0]) if word == "ask" else (word, numbers)


def fits(lines):
    """Whether the lines are those of a program."""
    head = re.fullmatch(rf"kept ({FIGURE}) loose ({FIGURE})", lines[0])
    if not head:
        return False
    try:
        require_program((int(head[1][:9]), int(head[2][:9]), tuple(slow_item(line) for line in lines[1:])))
    except InvalidProgram:
        return False
    return True


def slow_program_error(text):
    """The line of the error that the text must raise, or None: the first one with which the lines fit no more."""
    lines = text.split("\n")[:-1]
    for index in range(len(lines)):
        if not fits(lines[:index + 1]):
            return index
    return None if lines and text.endswith("\n") else len(lines)


def fits_cuts(lines, kept):
    pairs = [re.fullmatch(rf"({FIGURE}) picks((?: {FIGURE}){{{kept}}})", line) for line in lines]
    if len(lines) > 8 or None in pairs:
        return False
    return all(int(figures[:9]) <= 64 for line in lines for figures in re.findall("[0-9]+", line))


def slow_cuts_error(text, kept):
    lines = text.split("\n")[:-1]
    for index in range(len(lines)):
        if not fits_cuts(lines[:index + 1], kept):
            return index
    return None if text == "" or text.endswith("\n") else len(lines)


def changed(chance, text):
    """The text with something changed in it."""
    lines = text.split("\n")
    at = chance.randrange(len(lines))
    place = chance.randint(0, len(text))
    return chance.choice((
        text[:place],
        text[:place] + text[place + 1:],
        text[:place] + chance.choice(" 0123456789\n-+_.afk\r\t") + text[place:],
        text[:place] + chance.choice(" 0123456789\nfdo") + text[place + 1:],
        "\n".join(lines[:at] + lines[at + 1:]),
        "\n".join(lines[:at] + lines[at:at + 1] + lines[at:]),
        "\n".join(lines[:at] + lines[at:at + 2][::-1] + lines[at + 2:]),
        text + chance.choice((" ", "x", "mark", "\n", "mark\n", "0", "0 picks\n", "ask 0\n")),
        text[:-1],
    ))


class Texts(unittest.TestCase):
    def refuse(self, text, line):
        with self.assertRaises(ParseError) as caught:
            parse_program(text)
        self.assertEqual(caught.exception.line, line, text)

    def refuse_cuts(self, text, kept, line):
        with self.assertRaises(ParseError) as caught:
            parse_cuts(text, kept)
        self.assertEqual(caught.exception.line, line, text)


class TestPrograms(Texts):
    def test_the_example(self):
        self.assertEqual(format_program(SHORT), "kept 1 loose 0\ndo 0 from 0\nsend 0\n")

    def test_each_kind_of_line(self):
        self.assertEqual(format_program(ALL), text_of(LINES))
        self.assertEqual(parse_program(text_of(LINES)), ALL)
        self.assertEqual(parse_program(text=text_of(LINES)), parse_program(format_program(program=ALL)))

    def test_no_items(self):
        for kept in range(5):
            for loose in range(6):
                if kept + loose:
                    text = f"kept {kept} loose {loose}\n"
                    self.assertEqual(format_program((kept, loose, ())), text)
                    self.assertEqual(parse_program(text), (kept, loose, ()))

    def test_there_and_back(self):
        for program, _ in samples(151, 200, most_items=64):
            before = copy.deepcopy(program)
            text = format_program(program)
            self.assertIs(type(text), str)
            self.assertEqual(repr(parse_program(text)), repr(program))
            self.assertEqual(program, before)

    def test_no_text_at_all_and_no_line_end(self):
        self.refuse("", 0)
        self.refuse("kept 1 loose 2", 0)
        self.refuse("kept", 0)
        self.refuse("x", 0)
        self.refuse("\n", 0)
        self.refuse("kept 1 loose 2\nmark", 1)
        self.refuse(text_of(LINES)[:-1], 7)

    def test_something_behind_the_last_line_end(self):
        for rest in (" ", "x", "mark", "\t", "\r", "0"):
            self.refuse(text_of(LINES) + rest, 8)
            self.refuse("kept 1 loose 2\n" + rest, 1)
        self.refuse(text_of(LINES) + "\n", 8)

    def test_a_line_left_out_or_doubled(self):
        self.refuse(text_of(LINES[1:]), 0)
        self.refuse(text_of(LINES[:1] * 2 + LINES[1:]), 1)
        for at in range(1, len(LINES)):
            self.assertEqual(parse_program(text_of(LINES[:at] + LINES[at + 1:]))[2], ALL[2][:at - 1] + ALL[2][at:])
            self.assertEqual(parse_program(text_of(LINES[:at + 1] + LINES[at:]))[2], ALL[2][:at] + ALL[2][at - 1:])

    def test_first_lines_that_do_not_fit(self):
        for line in (
            "", " ", "kept", "kept 1", "kept 1 loose", "kept 1 loose 2 ", " kept 1 loose 2", "kept  1 loose 2",
            "kept 1  loose 2", "kept 01 loose 2", "kept 1 loose 02", "kept 1 loose 00", "kept 0 loose 0", "kept 5 loose 0",
            "kept 0 loose 6", "kept -1 loose 2", "kept +1 loose 2", "kept 1 loose 2 3", "loose 2 kept 1", "kept 1 kept 2",
            "kept loose 1 2", "1 kept 2 loose", "Kept 1 loose 2", "kept 1 loose x", "kept one loose two", "kept 1\tloose 2",
            "kept 1 loose 2\r", "kept 1_ loose 2", "kept 1.0 loose 2", "kept \u0661 loose 2", "kept \u00b9 loose 2",
            "kept 1 loose " + "9" * 5000, "kept " + "0" * 5000 + "1 loose 2", "kept 1 2", "loose 2", "kept 10 loose 0",
        ):
            self.refuse(line + "\n", 0)
            self.refuse(line + "\nmark\nnone\n", 0)
        self.refuse("kept\n1\nloose\n2\n", 0)

    def test_items_that_do_not_fit(self):
        for line in (
            "", " ", "do", "do ", "do 0 ", " do 0", "do  0", "do 00", "do 01", "do 3", "do 9", "do 10", "do -1", "do +0", "do x",
            "do 0 from", "do 0 from ", "do 0 from  1", "do 0 from 1 ", "do 0 from 01", "do 0 from 3", "do 0 from 1 1",
            "do 0 from 2 1", "do 0 from 0 1 2 3", "do 0 1", "do from 1", "do from 0 1", "do 0 1 from", "do 0 from 1 from 2",
            "do 0 from from 1", "do 0 From 1", "do 0 to 1", "from 0 do 1", "do 0 from 0 0 1", "do 0, 1", "Do 0",
            "ask", "ask ", "ask 3", "ask 0 1", "ask 0 from 1", "ask from 0", "ask 00", "ask 0 ", "ask  0", "ask x",
            "send", "send ", "send 3", "send 0 0", "send 1 0", "send 0 1 2 3", "send from 0", "send 0 from 1", "send  0", "send 00",
            "mark ", "mark 3", "mark 0 0", "mark 1 0", "mark 0 1 2 3", "mark from", "mark 0 from 1", "mark  0", "mark 0 ", "mark 01",
            "marks", "halt", "halt 0", "0", "0 1", "kept 1 loose 2", "from", "from 0", "picks", "ask \u0660", "ask \u00b2",
            "ask " + "1" * 5000, "ask " + "0" * 5000, "mark " + "0" * 19000, "x" * 19000, "ask 1\r", "ask\t1", "ask 1\x0b",
            "ask 1\u2028", "mark" + " 0" * 9000, "do 0 from" + " 1" * 9000, "ask None", "None", "do 0 from None", "ask 1_0", "ask 1e0",
        ):
            for before in (0, 1, 4):
                start = text_of(LINES[:1 + before])
                self.refuse(start + line + "\n", 1 + before)
                self.refuse(start + line + "\nmark\n\nask\n", 1 + before)
                if line:
                    self.refuse(start + line, 1 + before)

    def test_sixty_four_items_and_one_more(self):
        text = "kept 1 loose 2\n" + "mark\n" * 64
        self.assertEqual(parse_program(text), (1, 2, (("mark", ()),) * 64))
        self.refuse(text + "mark\n", 65)
        self.refuse(text + "mark\nnone\n" * 2, 65)
        self.refuse(text + "mark", 65)
        self.refuse(text + "\n", 65)
        self.refuse(text.replace("mark\n", "none\n", 1) + "mark\n", 1)
        self.refuse("kept 1 loose 2\n" + "mark\n" * 3990, 65)

    def test_great_texts(self):
        for text in ("\n" * 20000, " " * 20000, "0" * 20000, "kept 1 loose 0\n" + "9" * 19000, "kept " * 4000):
            self.assertEqual(slow_program_error(text), 1 if text.startswith("kept 1") else 0)
            self.refuse(text, slow_program_error(text))

    def test_changed_texts(self):
        chance = random.Random(152)
        right = 0
        for program, _ in samples(153, 700, most_items=8):
            text = format_program(program)
            for _ in range(4):
                text = changed(chance, text)
                error = slow_program_error(text)
                if error is None:
                    self.assertEqual(format_program(parse_program(text)), text)
                    right += 1
                else:
                    self.refuse(text, error)
        self.assertGreater(right, 100)

    def test_every_beginning(self):
        text = text_of(LINES)
        for at in range(len(text)):
            error = slow_program_error(text[:at])
            if error is None:
                self.assertEqual(text[at - 1], "\n")
                self.assertEqual(format_program(parse_program(text[:at])), text[:at])
            else:
                self.assertEqual(error, text[:at].count("\n"))
                self.refuse(text[:at], error)


class TestCuts(Texts):
    def test_the_example(self):
        self.assertEqual(format_cuts(((1, (1,)), (0, (0,)))), "1 picks 1\n0 picks 0\n")

    def test_each_number_of_kept_cells(self):
        for kept in range(5):
            picks = (0, 64, 7, 10)[:kept]
            cuts = ((3, picks), (64, picks[::-1]), (0, (0,) * kept))
            text = format_cuts(cuts=cuts)
            lines = ["3 picks" + "".join(f" {pick}" for pick in picks), None, "0 picks" + " 0" * kept]
            self.assertEqual(text.split("\n")[0::2], lines[::2])
            self.assertEqual(parse_cuts(kept=kept, text=text), cuts)
        self.assertEqual(format_cuts(((3, ()),)), "3 picks\n")

    def test_no_cuts(self):
        self.assertEqual(format_cuts(()), "")
        for kept in range(5):
            self.assertEqual(parse_cuts("", kept), ())

    def test_there_and_back(self):
        for program, cuts in samples(154, 300):
            before = copy.deepcopy(cuts)
            self.assertEqual(repr(parse_cuts(format_cuts(cuts), program[0])), repr(cuts))
            self.assertEqual(cuts, before)

    def test_eight_pairs_and_a_ninth(self):
        text = "64 picks 0\n" * 8
        self.assertEqual(parse_cuts(text, 1), ((64, (0,)),) * 8)
        self.refuse_cuts(text + "64 picks 0\n", 1, 8)
        self.refuse_cuts(text + "64 picks 0\n" * 900, 1, 8)
        self.refuse_cuts(text + "64 picks 0", 1, 8)
        self.refuse_cuts(text + "x\n", 1, 8)
        self.refuse_cuts(text + "\n", 1, 8)

    def test_lines_that_do_not_fit(self):
        for line in (
            "", " ", "3", "picks", "picks 0 1", "3 picks", "3 picks ", "3 picks 0", "3 picks 0 ", "3 picks 0 1 ", " 3 picks 0 1",
            "3  picks 0 1", "3 picks  0 1", "3 picks 0  1", "03 picks 0 1", "3 picks 00 1", "3 picks 0 01", "65 picks 0 1",
            "3 picks 0 65", "3 picks 65 0", "100 picks 0 1", "-3 picks 0 1", "+3 picks 0 1", "3 picks 0 -1", "3 picks 0 1 2",
            "3 pick 0 1", "3 Picks 0 1", "picks 3 0 1", "3 0 picks 1", "3 0 1 picks", "3 picks picks 0 1", "3 picks 0 picks 1",
            "3 0 1", "x picks 0 1", "3 picks x 1", "3 picks 0 1\r", "3\tpicks 0 1", "\u0663 picks 0 1", "3 picks 0 \u00b2",
            "9" * 5000 + " picks 0 1", "3 picks 0 " + "0" * 5000, "3 picks 0 " + "1" * 19000, "3 picks" + " 0" * 9000, "None picks 0 1",
        ):
            for before in (0, 2):
                start = "0 picks 64 0\n" * before
                self.refuse_cuts(start + line + "\n", 2, before)
                self.refuse_cuts(start + line + "\n3 picks\n\n", 2, before)
                if line:
                    self.refuse_cuts(start + line, 2, before)

    def test_something_behind_the_last_line_end(self):
        self.refuse_cuts("x", 1, 0)
        self.refuse_cuts("3 picks 1", 1, 0)
        self.refuse_cuts("3 picks 1\n4 picks 1", 1, 1)
        self.refuse_cuts("3 picks 1\n ", 1, 1)
        self.refuse_cuts("\n", 1, 0)

    def test_no_kept_cells(self):
        self.assertEqual(parse_cuts("3 picks\n0 picks\n", 0), ((3, ()), (0, ())))
        self.refuse_cuts("3 picks 0\n", 0, 0)
        self.refuse_cuts("3 picks \n", 0, 0)
        self.refuse_cuts("3\n", 0, 0)

    def test_changed_texts(self):
        chance = random.Random(155)
        right = 0
        for program, cuts in samples(156, 700, most_items=3):
            text, kept = format_cuts(cuts), program[0]
            for _ in range(4):
                text = changed(chance, text)
                error = slow_cuts_error(text, kept)
                if error is None:
                    self.assertEqual(format_cuts(parse_cuts(text, kept)), text)
                    right += 1
                else:
                    self.refuse_cuts(text, kept, error)
        self.assertGreater(right, 100)


class TestInterface(unittest.TestCase):
    def test_each_function_is_defined_in_its_file(self):
        for function in (format_program, format_cuts, parse_program, parse_cuts):
            self.assertEqual(function.__module__, texts.__name__)


if __name__ == "__main__":
    unittest.main()
