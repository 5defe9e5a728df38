"""The whole interface, and one program that is made in many ways."""

import copy
import importlib
import inspect
import random

from mapsizes.desk import Desk
from mapsizes.facts import Facts
from mapsizes.guards import guarded
from mapsizes.keeping import kept_lists
from mapsizes.lab import Lab
from mapsizes.likeness import alike
from mapsizes.machine import Machine, run
from mapsizes.outcomes import can, cases_of, never, outcomes
from mapsizes.places import Place
from mapsizes.programs import Program
from mapsizes.settings import Setting
from mapsizes.texts import program_text, read_program, step_text
from mapsizes.weavings import outcomes_at, states_at
from tests.helper import Checks, any_values, chosen_facts, chosen_program, settings_around

FACTS = "facts=None, *, page=None"
FUNCTIONS = {
    "places": ["is_integer(value, low, high)", "is_name(value)", "is_mark(value)", "is_place(value)"],
    "kinds": [
        "same_kind(one, other, places)", f"cases(places, {FACTS})", f"case_of(setting, places, {FACTS})",
    ],
    "orders": [
        f"orders(left, right, {FACTS})", f"always(relation, left, right, {FACTS})", f"pages_apart(left, right, {FACTS})",
        "follows(fact, facts, *, page=None)", "implied(one, other, *, page=None)",
    ],
    "steps": ["is_step(value)"],
    "machine": ["run(program, setting, weaving)"],
    "weavings": [
        "weavings(program, setting)", "replay(program, setting, outcome, weaving)", "outcomes_at(program, setting)",
        "states_at(program, setting)", "shows(outcome, pattern)", "is_pattern(program, value)",
        "is_closed(program, setting, states, *, barred)",
    ],
    "outcomes": [
        "cases_of(program)", "case_for(program, setting)", "outcomes(program)", "can(program, pattern)",
        "where(program, pattern)", "answers(program, hand, step)", "together(program, asked)",
        "never(program, pattern)", "check_never(program, pattern, papers)",
    ],
    "keeping": [
        "kept_lists(program, place)", "can_keep(program, place, byte)", "sure_byte(program, place)",
        "losses(program, hand, step)", "saved(program, hand, step)",
    ],
    "likeness": [
        "alike(one, other)", "alike_at(one, other, setting)", "with_page(program, page)", "same_pages(program)",
    ],
    "guards": [
        "is_guard(program, value)", "guarded(program, guards)", "step_behind(program, guards, hand, step)",
        "pattern_behind(program, guards, pattern)", "bars(program, guards, pattern)",
        "fewest_guards(program, pattern, candidates, *, most=2)",
        "check_fewest(program, pattern, candidates, result, *, most=2)",
    ],
    "texts": ["step_text(step)", "read_step(text)", "program_text(program)", "read_program(text)"],
}
CLASSES = {
    "places": {"Place(base='', *, shift=0)": [
        "base", "shift", "of(value)", "__str__()", "__eq__(other)", "__add__(other)", "__radd__(other)",
        "__sub__(other)",
    ]},
    "settings": {"Setting(sizes, *, page=32)": [
        "sizes()", "page", "same_page(place, other)", "__getitem__(at)", "__contains__(x)", "__eq__(other)",
    ]},
    "facts": {"Facts(*rows)": [
        "rows()", "unknowns()", "holds(setting)", "__and__(other)", "__len__()", "__eq__(other)",
    ]},
    "programs": {"Program(hands, *, first, facts=None, page=None)": [
        "hands()", "first", "facts", "page", "places()", "unknowns()", "allows(value)", "step(hand, index)",
        "with_hand(hand, steps)", "__len__()", "__eq__(other)",
    ]},
    "machine": {"Machine(program, setting)": [
        "ready()", "take(hand)", "outcome()", "size()", "byte(place)", "shown(place)", "kept(place)", "ended(hand)",
        "holds(hand)", "state()", "copied()",
    ]},
    "lab": {"Lab(program)": [
        "program()", "__getitem__(at)", "__setitem__(at, worth)", "put(hand, at, step)", "take_out(hand, at)",
        "exchange(hand, start, stop, steps)", "begin_at(place)", "assume(row)", "forget(index)", "undo()",
        "__len__()", "log()", "trial()", "keep()", "change_by(row)", "tried(rows)", "answers(hand, step)", "parted()",
    ]},
    "desk": {"Desk()": ["execute(line)", "execute_all(lines)", "program()", "log()"]},
}
PROGRAM = Program([[("cut", 1), ("store", "n", "x")], [("test", "n"), ("sync", 0, "n")]], first="n+1")
SETTING = Setting({"n": 40}, page=64)


def module(name):
    return importlib.import_module("mapsizes." + name)


class TestInterface(Checks):
    def test_functions(self):
        for name, rows in FUNCTIONS.items():
            for row in rows:
                found = getattr(module(name), row.partition("(")[0])
                self.assertEqual(found.__module__, "mapsizes." + name)
                self.assertEqual(found.__name__ + str(inspect.signature(found)), row)
                self.assertTrue(found.__doc__, row)

    def test_classes_with_their_own_methods(self):
        for name, rows in CLASSES.items():
            for row, methods in rows.items():
                found = getattr(module(name), row.partition("(")[0])
                self.assertEqual(found.__module__, "mapsizes." + name)
                self.assertEqual(found.__name__ + str(inspect.signature(found)), row)
                for method in methods:
                    word = method.partition("(")[0]
                    self.assertIn(word, vars(found), row)
                    if "(" not in method:
                        self.assertIsInstance(vars(found)[word], property)
                        continue
                    told = str(inspect.signature(getattr(found, word)))
                    own = "(value)" if word == "of" else told.replace("(self, ", "(").replace("(self)", "()")
                    self.assertEqual(word + own, method)

    def test_names_of_arguments_in_any_order(self):
        """Each function with arguments of which the later ones are told first."""
        guards, pattern = [("test", 0, 0, "n")], [(1, 0, "end")]
        told = {
            "value": ("cut", 0), "low": 0, "high": 2, "one": PROGRAM, "other": PROGRAM, "places": ["n", 1],
            "facts": Facts(("at_most", 1, "n")), "page": None, "setting": SETTING, "left": "n", "right": 2,
            "relation": "<=", "fact": ("page", "n"), "program": PROGRAM, "weaving": [0, 1], "outcome": ((), ()),
            "pattern": pattern, "states": states_at(PROGRAM, SETTING), "barred": pattern, "hand": 0, "step": 1,
            "asked": [(0, 1)], "papers": [], "place": "n", "byte": "x", "guards": guards, "candidates": guards,
            "most": 1, "result": ("none", [], []), "text": program_text(PROGRAM), "at": 0, "index": 1,
        }
        special = {
            "same_kind": {"one": SETTING, "other": SETTING}, "implied": {"one": Facts(), "other": Facts()},
            "shows": {"outcome": (("done",), ("end",)), "pattern": pattern}, "step_text": {"step": ("cut", 0)},
            "read_step": {"text": "cut 0"}, "saved": {"hand": 1}, "is_guard": {"value": guards[0]},
        }
        for name, rows in FUNCTIONS.items():
            for row in rows:
                call = getattr(module(name), row.partition("(")[0])
                kinds = inspect.signature(call).parameters
                values = {**told, **special.get(call.__name__, {})}
                named = {word: values[word] for word in reversed(list(kinds))}
                kept = copy.deepcopy(named)
                placed = [values[word] for word, kind in kinds.items() if kind.kind != kind.KEYWORD_ONLY]
                only = {word: values[word] for word, kind in kinds.items() if kind.kind == kind.KEYWORD_ONLY}
                self.assertEqual(self.plain(call(**named)), self.plain(call(*placed, **only)), row)
                self.assertEqual(named, kept)

    def plain(self, found):
        """What can be compared of a result."""
        if isinstance(found, Machine):
            return found.state()
        return list(found) if inspect.isgenerator(found) else found

    def test_names_of_arguments_of_methods(self):
        self.assertEqual(Setting(page=3, sizes={"n": 1}).same_page(other="n+1", place="n"), True)
        self.assertEqual(Program(page=None, facts=None, first="n", hands=[[("cut", 0)]]).step(index=0, hand=0)[0], "cut")
        self.assertEqual(len(PROGRAM.with_hand(steps=[], hand=0)), 2)
        self.assertEqual([PROGRAM.allows(value=SETTING), Facts(("page", "n")).holds(setting=SETTING)], [True, False])
        machine = Machine(setting=SETTING, program=PROGRAM)
        self.assertEqual([machine.take(hand=0), machine.byte(place=1), machine.ended(hand=0)], ["done", "end", False])
        lab = Lab(program=PROGRAM)
        lab.put(step=("cut", 0), at=0, hand=1)
        lab.exchange(steps=[("cut", 2)], stop=1, start=0, hand=1)
        self.assertEqual(lab.take_out(at=0, hand=1), ("cut", Place(shift=2)))
        lab.assume(row=("page", "n"))
        lab.begin_at(place="n+2")
        self.assertEqual([lab.forget(index=0), lab.answers(step=0, hand=0)], [("page", Place("n")), ["done"]])
        lab.change_by(row=("begin_at", "n+1"))
        self.assertEqual([lab.tried(rows=[]), lab.program()], [PROGRAM, PROGRAM])
        desk = Desk()
        self.assertEqual([desk.execute(line="first n"), desk.execute_all(lines=["hand"])], ["done", ["done"]])

    def test_the_document_names_no_other_module(self):
        for name in [*FUNCTIONS, *CLASSES]:
            self.assertTrue(module(name).__doc__)


def made_in_a_lab(chosen, program):
    """A laboratory that comes to a program by changes, some of them taken back."""
    lab = Lab(Program([[("cut", 0)] for _ in program.hands()], first=3, page=program.page))
    for hand, steps in enumerate(program.hands()):
        lab[hand] = []
        for index, step in enumerate(steps):
            lab.put(hand, index, step)
            if chosen.randrange(3) == 0:
                lab.undo()
                lab.exchange(hand, index, index, [step])
    with lab.trial():
        lab.begin_at(0)
        lab[0] = []
    for row in program.facts.rows():
        lab.assume(row)
        lab.forget(len(lab.program().facts) - 1)
        lab.undo()
    with lab.trial():
        lab.begin_at(program.first)
        lab.keep()
        lab.begin_at(1)
    return lab


def laid_on_a_desk(program):
    desk = Desk()
    desk.execute("first " + str(program.first))
    for hand, steps in enumerate(program.hands()):
        desk.execute_all(["hand"] * (hand > 0))
        desk.execute_all(["step " + str(hand) + " " + step_text(step) for step in steps])
    for word, *places in program.facts.rows():
        desk.execute(" ".join(["fact", word, *[str(place) for place in places]]))
    desk.execute("page large" if program.page is None else "page " + str(program.page))
    return desk


def without_guards(chosen, program):
    """A guarded program whose guards are taken out again in a laboratory."""
    hand = chosen.randrange(len(program.hands()))
    count = len(program.hands()[hand])
    place = str(program.first)
    guards = [("test", hand, 0, place), ("sync", hand, count, place, place)]
    if count > 0:
        guards.append(("lock", hand, 0, count - 1, "guard"))
    lab = Lab(guarded(program, guards))
    steps = lab[hand]
    for index in reversed(range(len(steps))):
        ahead = 2 if count > 0 else 1
        if not ahead <= index < ahead + count:
            if steps[index] != ("lock", "guard") and steps[index] != ("unlock", "guard"):
                lab.take_out(hand, index)
    lab[hand] = [step for step in lab[hand] if step[1] != "guard"]
    return lab.program()


class TestWhole(Checks):
    def test_one_program_made_in_many_ways(self):
        chosen = random.Random(91)
        for number in range(40):
            two = number % 2 == 0
            page = None if two else chosen.choice([None, 1, 2, 31])
            counts = chosen.choice([(2, 1), (3,), (0, 2), (1, 1, 1)])
            program = chosen_program(chosen, counts, two=two, page=page, facts=chosen_facts(chosen, two), pools=(2, 3))
            text = program_text(program)
            twins = [
                read_program(text), made_in_a_lab(chosen, program).program(), laid_on_a_desk(program).program(),
                without_guards(chosen, program), Program(program.hands(), first=program.first, facts=program.facts,
                                                         page=program.page),
            ]
            settings = settings_around(program, chosen, 2) + cases_of(program)[:2]
            for twin in twins:
                self.assertEqual([twin, program_text(twin)], [program, text])
                self.assertEqual([cases_of(twin), outcomes(twin)], [cases_of(program), outcomes(program)])
                self.assertIsNone(alike(program, twin))
                for setting in settings:
                    weaving = outcomes_at(program, setting)[0][1]
                    for count in range(len(weaving) + 1):
                        one, other = [run(some, setting, weaving[:count]) for some in (program, twin)]
                        self.assertEqual([one.state(), one.ready()], [other.state(), other.ready()])

    def test_large_programs(self):
        """The greatest programs that are passed get their answers in good time."""
        hands = [
            [("write", 0, "n+3", "a"), ("write", 1, "n+2", "b"), ("read", "n")],
            [("store", "n-1", "c"), ("cut", "n+1"), ("look", "n+2")], [("sync", "n-2", "n"), ("cut", 2)],
        ]
        for page in (None, 1, 2, 31):
            program = Program(hands, first="n", page=page)
            told = outcomes(program)
            self.assertGreater(len(told), 8)
            outcome, case, weaving = told[-1]
            self.assertEqual(run(program, case, weaving).outcome(), outcome)
            self.assertIsNone(can(program, [(0, 2, "other")]))
            self.assertGreater(len(kept_lists(program, "n")), 3)
        papers = never(Program(hands, first="n"), [(0, 2, "other")])
        self.assertEqual([case for case, _ in papers], cases_of(Program(hands, first="n")))
        two = Program([[("write", "n", "m+1", "x"), ("cut", "n+2")], [("test", "m"), ("look", "m+1"), ("store", "n-1", "y")]],
                      first="m", facts=Facts(("at_most", "n-2", "m")))
        self.assertGreater(len(outcomes(two)), 2)

    def test_any_value_can_be_asked(self):
        """The functions that take any value tell True or False of each."""
        deep = [{"n": [[({"m": [((None,),)]},)]], "x": (1, [2])}]
        for value in any_values() + [deep, (deep,), {"n": deep}, [[]] * 100, {str(k): k for k in range(100)}]:
            for name, word in [("places", "is_name"), ("places", "is_mark"), ("places", "is_place"), ("steps", "is_step")]:
                self.assertIsInstance(getattr(module(name), word)(value), bool)
            self.assertIsInstance(PROGRAM.allows(value), bool)
            self.assertIsInstance(value in SETTING, bool)
            self.assertIs(module("guards").is_guard(PROGRAM, value), False)
            self.assertIs(module("weavings").is_pattern(PROGRAM, value), value in ([], ()))
            pattern = [(1, 0, "never")]
            self.assertIs(module("outcomes").check_never(PROGRAM, pattern, value), False)
            self.assertIs(module("guards").check_fewest(PROGRAM, pattern, [], value), False)
            self.assertIs(module("weavings").is_closed(PROGRAM, SETTING, value, barred=pattern), False)
