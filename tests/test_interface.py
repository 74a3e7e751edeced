"""What the document promises of the whole interface: its names, how arguments are passed, and its examples."""

import doctest
import importlib
import inspect
import itertools
import pathlib
import unittest

from cutrows.sessions import Session

HERE = pathlib.Path(__file__).resolve().parent
EVEN = (1,) * 11
# Each function with its parameters; those behind a star are passed by name only.
FUNCTIONS = {
    "programs": "require_program(value) is_kept(program,cell) written_cell(item) read_cells(item) mark_indices(program)",
    "runs": "run(program,cuts) after_cuts(program,cuts,count)",
    "good": "same_shape(one_made,one,two_made,two) first_sent(program,cuts) run_fault(program,cuts)",
    "facts": "first_facts(program) leads(program,fact) facts_of(program) lineage(program,fact)",
    "safety": "is_safe(program) spoiling(program)",
    "matters": "matters(program,position) way_out(program,position,cell)",
    "places": "bare(program) places(program) split_program(program,some) planned(program,plan) origins(program,plan)"
              " needed(program,one,two) is_allowed(program,one,two)",
    "prices": "price_between(program,prices,one,two) price_of(program,prices,plan) least_price(program,prices)"
              " cheapest(program,prices) levels(program,prices) fewest_splits(program)",
    "claims": "require_claim(program,claim) decide(program,claim,*prices)",
    "checker": "first_fault(program,certificate,*prices)",
    "texts": "format_program(program) format_cuts(cuts) parse_program(text) parse_cuts(text,kept)",
}
CLASSES = {
    "machines": ("Machine(program)", "go(count) cut(picks) position() cells() left() sent() made() __len__()"),
    "sessions": (
        "Session(program,*prices)",
        "program() prices() machine() put(index,item) put_before(index,item) take(index) set_price(which,price) checkpoint()"
        " restore(number) program_at(number) decide(claim) record(claim) recorded(number) standing(number) __len__()",
    ),
}
DEFAULTS = {("run", "cuts"): (), ("decide", "prices"): EVEN, ("first_fault", "prices"): EVEN, ("__init__", "prices"): EVEN}
ALLOWED = (1, 0, (("do", 0, (0,)), ("send", (0,))))
# A right call of each function and method that takes more than one argument.
CALLS = {
    "is_kept": (ALLOWED, 0), "run": (ALLOWED, ((1, (1,)),)), "after_cuts": (ALLOWED, ((1, (1,)),), 1),
    "same_shape": ((("nothing",),), 0, (("nothing",), ("first", 0)), 1), "first_sent": (ALLOWED, ()),
    "run_fault": (ALLOWED, ((1, (1,)),)), "leads": (ALLOWED, (0, "wrong", 0)), "lineage": (ALLOWED, (1, "wrong", 0)),
    "matters": (ALLOWED, 1), "way_out": (ALLOWED, 1, 0), "split_program": (ALLOWED, (1,)), "planned": (ALLOWED, (1,)),
    "origins": (ALLOWED, (1,)), "needed": (ALLOWED, 0, 1), "is_allowed": (ALLOWED, 0, 4),
    "price_between": (ALLOWED, EVEN, 0, 1), "price_of": (ALLOWED, EVEN, (1,)), "least_price": (ALLOWED, EVEN),
    "cheapest": (ALLOWED, EVEN), "levels": (ALLOWED, EVEN), "require_claim": (ALLOWED, ("safe",)),
    "decide": (ALLOWED, ("safe",)), "first_fault": (ALLOWED, ("shown", ("safe",), ())), "parse_cuts": ("1 picks 1\n", 1),
    "put": (0, ("ask", 0)), "put_before": (1, ("ask", 0)), "set_price": (3, 5),
}


def told(words):
    """Yield each name with its parameters: those by position or name, and those by name only."""
    for word in words.split():
        name, parameters = word.rstrip(")").split("(")
        plain = [part for part in parameters.split(",") if part and not part.startswith("*")]
        yield name, plain, [part[1:] for part in parameters.split(",") if part.startswith("*")]


def found(parameters):
    plain = [one.name for one in parameters if one.kind is inspect.Parameter.POSITIONAL_OR_KEYWORD]
    return plain, [one.name for one in parameters if one.kind is inspect.Parameter.KEYWORD_ONLY]


class TestInterface(unittest.TestCase):
    def check(self, function, plain, named):
        parameters = [one for one in inspect.signature(function).parameters.values() if one.name != "self"]
        self.assertEqual(found(parameters), (plain, named), function)
        self.assertEqual(len(parameters), len(plain) + len(named))
        for one in parameters:
            expected = DEFAULTS.get((function.__name__, one.name), inspect.Parameter.empty)
            self.assertEqual(one.default, expected, (function, one))

    def test_functions(self):
        for name, words in FUNCTIONS.items():
            module = importlib.import_module("cutrows." + name)
            for function, plain, named in told(words):
                self.check(getattr(module, function), plain, named)
                self.assertEqual(getattr(module, function).__module__, module.__name__)

    def test_classes(self):
        for name, (head, words) in CLASSES.items():
            module = importlib.import_module("cutrows." + name)
            (word, plain, named), = told(head)
            kind = getattr(module, word)
            self.assertEqual(kind.__module__, module.__name__)
            self.check(kind.__init__, plain, named)
            for method, method_plain, method_named in told(words):
                self.assertIn(method, vars(kind))
                self.check(getattr(kind, method), method_plain, method_named)

    def test_by_position_and_by_name_in_any_order(self):
        tried = 0
        for module, words in list(FUNCTIONS.items()) + [("sessions", CLASSES["sessions"][1])]:
            for name, plain, _ in told(words):
                if len(plain) > 1:
                    self.call_in_all_ways(module, name, plain)
                    tried += 1
        self.assertEqual(tried, len(CALLS))

    def call_in_all_ways(self, module, name, plain):
        arguments = CALLS[name]
        outcomes = []
        for order in itertools.permutations(range(len(plain))):
            for first in range(len(plain) + 1):
                by_name = {plain[at]: arguments[at] for at in order if at >= first}
                outcomes.append(self.outcome(module, name, arguments[:first], by_name))
        self.assertEqual(outcomes, outcomes[:1] * len(outcomes), name)

    def outcome(self, module, name, by_position, by_name):
        if module == "sessions":
            session = Session(ALLOWED)
            return getattr(session, name)(*by_position, **by_name), session.program(), session.prices()
        return getattr(importlib.import_module("cutrows." + module), name)(*by_position, **by_name)

    def test_the_examples(self):
        failed, tried = doctest.testfile(str(HERE / "examples.txt"), module_relative=False)
        self.assertEqual((failed, tried), (0, 51))

    def test_returned_dicts_are_new(self):
        first_sent = importlib.import_module("cutrows.good").first_sent
        one = first_sent(ALLOWED, ())
        one[7] = None
        self.assertEqual(first_sent(ALLOWED, ()), {1: (2,)})


if __name__ == "__main__":
    unittest.main()
