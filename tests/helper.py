"""What the tests of all modules share."""

import copy
import unittest

from mapsizes.facts import Facts
from mapsizes.places import Place
from mapsizes.programs import Program
from mapsizes.settings import Setting

SIXTY_DIGITS = int("9" * 60)
PLACES_OF_N = ["n-3", "n-2", "n-1", "n", "n+1", "n+2", "n+3"]
PLACES_OF_M = ["m-3", "m-2", "m-1", "m", "m+1", "m+2", "m+3"]


class Checks(unittest.TestCase):
    def refused(self, kind, fields, call, *args, **named):
        """The call raises just this class, and its fields are the very objects that are told, by their names."""
        with self.assertRaises(kind) as caught:
            call(*args, **named)
        self.assertIs(type(caught.exception), kind)
        for name, value in fields.items():
            self.assertIs(getattr(caught.exception, name), value)

    def refused_with_list(self, kind, items, call, *args, **named):
        """The call raises just this class, and its field is a new list of these items, told anew at each call."""
        found = []
        for _ in range(2):
            with self.assertRaises(kind) as caught:
                call(*args, **named)
            self.assertIs(type(caught.exception), kind)
            found.append(caught.exception.value)
        self.assertEqual(found, [items, items])
        self.assertIs(type(found[0]), list)
        self.assertIsNot(found[0], found[1])
        for value in [*args, *named.values()]:
            self.assertIsNot(found[0], value)

    def told(self, call, value, wanted):
        """The call returns True or False itself, not only something that counts as it."""
        self.assertIs(call(value), wanted, value)


def values_of_no_text():
    """Values of each kind in which no string and no integer is, new ones at each call."""
    objects = [Setting({"n": 1}), Facts(), Facts(("page", "n")), Program([[("cut", "n")]], first="n")]
    return [None, True, False, [], ["n"], (), ("n",), ("n", 1), {}, {"n": 1}, [[("n",)]], ((("n",), 1),), *objects]


def any_values():
    """Values of each kind, new ones at each call."""
    return values_of_no_text() + [0, -1, SIXTY_DIGITS, "", "n", "x" * 2000, "n m", Place("n"), Place(shift=2)]


def value_of(text, sizes):
    """The value of a place that is told as a text or as an integer, by the sizes of the unknowns."""
    if text in (0, 1, 2, 3) or text in ("0", "1", "2", "3"):
        return int(text)
    for sign in "+-":
        if sign in text:
            name, shift = text.split(sign)
            return sizes[name] + int(sign + shift)
    return sizes[text]


def plain_kind(places, sizes, page):
    """All that [31] compares, word by word, for places that are told as texts."""
    values = [value_of(text, sizes) for text in dict.fromkeys([*places, 0])]
    return tuple(
        (p < q, p // page == q // page, (p - 1) // page == q // page) for p in values for q in values
    )


def keeps_plainly(rows, sizes, page):
    """Whether sizes and a page size keep rows with places that are told as texts [22]."""
    for word, *places in rows:
        values = [value_of(text, sizes) for text in places]
        if (values[0] > values[1]) if word == "at_most" else (values[0] % page != 0):
            return False
    return True


def with_texts(step):
    """A step with texts instead of Place objects."""
    return (step[0], *[str(item) for item in step[1:]])


class PlainMachine:
    """The machine as [61] to [65] tell it, byte by byte, for small sizes."""

    def __init__(self, program, setting):
        self.hands = [[with_texts(step) for step in hand] for hand in program.hands()]
        self.sizes, self.page = setting.sizes(), setting.page
        self.places = [str(place) for place in program.places()]
        size = self.value(str(program.first))
        self.file = ["old"] * size
        self.since = [["old"] for _ in range(size)]
        self.behind = {}
        self.answers = [[] for _ in self.hands]
        self.turns = [0 for _ in self.hands]
        self.over = [not hand for hand in self.hands]
        self.held = {}

    def copied(self):
        twin = copy.copy(self)
        twin.file, twin.since = list(self.file), [list(row) for row in self.since]
        twin.behind, twin.held = dict(self.behind), dict(self.held)
        twin.answers = [list(row) for row in self.answers]
        twin.turns, twin.over = list(self.turns), list(self.over)
        return twin

    def value(self, text):
        return value_of(text, self.sizes)

    def ready(self):
        return [hand for hand in range(len(self.hands)) if not self.over[hand] and not self.waits(hand)]

    def waits(self, hand):
        step = self.hands[hand][len(self.answers[hand])]
        return step[0] == "lock" and self.held.get(step[1], hand) != hand

    def take(self, hand):
        step = self.hands[hand][len(self.answers[hand])]
        answer = getattr(self, step[0])(hand, *step[1:])
        self.turns[hand] += 1
        if answer is not None:
            self.answers[hand].append(answer)
            self.turns[hand] = 0
            failed = answer == "fails" or (step[0] == "test" and answer == "end")
            self.over[hand] = failed or len(self.answers[hand]) == len(self.hands[hand])
        if self.over[hand]:
            self.held = {name: holder for name, holder in self.held.items() if holder != hand}
        return answer

    def resize(self, size):
        if size != len(self.file):
            self.behind = {}
        del self.file[size:], self.since[size:]
        while len(self.file) < size:
            self.file.append("zero")
            self.since.append(["zero"])

    def put(self, k, mark):
        self.file[k] = mark
        self.since[k].append(mark)

    def cut(self, hand, p):
        self.resize(self.value(p))
        return "done"

    def write(self, hand, p, q, mark):
        start, stop = self.value(p), self.value(q)
        reached = [k for k in map(self.value, self.places) if start <= k < stop]
        pages = sorted({k // self.page for k in reached})
        if not pages:
            return "done"
        if self.turns[hand] == 0 and len(self.file) < stop:
            self.resize(stop)
        for k in range(start, min(stop, len(self.file))):
            if k // self.page == pages[self.turns[hand]]:
                self.put(k, mark)
        return "done" if self.turns[hand] == len(pages) - 1 else None

    def read(self, hand, p):
        return self.byte(p)

    def look(self, hand, p):
        return self.shown(p)

    def store(self, hand, p, mark):
        k = self.value(p)
        if k < len(self.file):
            self.put(k, mark)
        elif self.in_last_page(k):
            self.behind[k] = mark
        else:
            return "fails"
        return "done"

    def test(self, hand, p):
        return "more" if self.value(p) < len(self.file) else "end"

    def sync(self, hand, p, q):
        saved = {k // self.page for k in range(self.value(p), self.value(q))}
        for k in range(len(self.file)):
            if k // self.page in saved:
                self.since[k] = [self.file[k]]
        return "done"

    def lock(self, hand, name):
        self.held[name] = hand
        return "done"

    def unlock(self, hand, name):
        del self.held[name]
        return "done"

    def in_last_page(self, k):
        return len(self.file) > 0 and k // self.page == (len(self.file) - 1) // self.page

    def byte(self, text):
        k = self.value(text)
        return self.file[k] if k < len(self.file) else "end"

    def shown(self, text):
        k = self.value(text)
        if k < len(self.file):
            return self.file[k]
        return self.behind.get(k, "zero") if self.in_last_page(k) else "fails"

    def kept(self, text):
        k = self.value(text)
        return sorted(set(self.since[k])) if k < len(self.file) else ["end"]

    def holds(self, hand):
        return sorted(name for name, holder in self.held.items() if holder == hand)

    def outcome(self):
        found = zip(self.hands, self.answers)
        return tuple(tuple(answers + ["none"] * (len(hand) - len(answers))) for hand, answers in found)

    def state(self):
        return (
            tuple((tuple(answers), turns) for answers, turns in zip(self.answers, self.turns)),
            [text for text in self.places if self.value(text) == len(self.file)][0],
            tuple(self.byte(text) for text in self.places),
            tuple(self.shown(text) for text in self.places),
            tuple(tuple(self.kept(text)) for text in self.places),
            tuple(sorted(self.held.items())),
        )


def all_runs(program, setting):
    """All weavings, complete or not, each with a plain machine after it; as lists they ascend."""
    left = [([], PlainMachine(program, setting))]
    while left:
        weaving, machine = left.pop()
        yield weaving, machine
        for hand in machine.ready()[::-1]:
            twin = machine.copied()
            twin.take(hand)
            left.append(([*weaving, hand], twin))


def complete_runs(program, setting, most=400):
    """All complete weavings with plain machines after them, the least first, or None if there are too many runs."""
    runs = [run for _, run in zip(range(most + 1), all_runs(program, setting))]
    if len(runs) > most:
        return None
    complete = [(weaving, machine) for weaving, machine in runs if not machine.ready()]
    return sorted(complete, key=lambda row: (len(row[0]), row[0]))


def chosen_facts(chosen, two):
    """Facts, mostly few; some bar one another, and some are about an unknown that a program need not have."""
    texts = ["n", "n+1", "n-2", "0", "1", "3"] + (["m", "m+2", "m-1"] if two else [])
    rows = [("at_most", chosen.choice(texts), chosen.choice(texts)) for _ in range(chosen.choice([0, 0, 1, 1, 2]))]
    if chosen.randrange(4) == 0:
        rows.append(("page", chosen.choice(texts)))
    return Facts(*rows)


def settings_around(program, chosen, count):
    """Settings of a program at the begin of the file and at page ends, small ones and great ones."""
    found = [chosen_setting(chosen, program, great=number % 2 == 1) for number in range(count)]
    return [setting for setting in found if setting is not None]


def chosen_hand(chosen, places, count):
    """Some steps that one hand can have."""
    hand, held = [], []
    while len(hand) < count:
        word = chosen.choice(["cut", "write", "write", "read", "look", "store", "store", "test", "sync", "lock"])
        p, q, mark = chosen.choice(places), chosen.choice(places), chosen.choice("xyz")
        name = chosen.choice("ab")
        if word == "lock" and name in held:
            held.remove(name)
            hand.append(("unlock", name))
        elif word == "lock":
            held.append(name)
            hand.append(("lock", name))
        else:
            items = {"write": (p, q, mark), "store": (p, mark), "sync": (p, q)}
            hand.append((word, *items.get(word, (p,))))
    return hand


def chosen_program(chosen, counts, *, two=False, page=None, facts=None, pools=(3, 5, 9, 14)):
    """A program whose hands have these numbers of steps, with places of one or of two unknowns."""
    texts = [*PLACES_OF_N, "0", "1", "2", "3"] + (PLACES_OF_M if two else [])
    places = chosen.sample(texts, min(len(texts), chosen.choice(pools), 14 - 2 * len(facts or ())))
    hands = [chosen_hand(chosen, places, count) for count in counts]
    return Program(hands, first=chosen.choice(places), page=page, facts=facts)


def chosen_setting(chosen, program, great=False):
    """A setting of a program at or around the begin of the file or an end of a page, or None if none is found."""
    for _ in range(40):
        page = program.page or chosen.choice([10 ** 57, 10 ** 59 - 1] if great else [32, 33, 40])
        ends = [0, page, 2 * page] + ([10 ** 58 // page * page] if great else [])
        sizes = {name: max(0, chosen.choice(ends) + chosen.randrange(-8, 9)) for name in ("n", "m")}
        if chosen.randrange(2):
            sizes["m"] = max(0, sizes["n"] + chosen.randrange(-6, 7))
        setting = Setting({name: sizes[name] for name in program.unknowns()}, page=page)
        if program.allows(setting):
            return setting
    return None
