"""[41] and [42]: what facts decide."""

from mapsizes.errors import InvalidFact, InvalidFacts, InvalidInteger, InvalidName, InvalidPlace, InvalidPlaces
from mapsizes.facts import Facts
from mapsizes.orders import always, follows, implied, orders, pages_apart
from mapsizes.places import Place
from mapsizes.settings import Setting
from tests.helper import PLACES_OF_M, Checks, any_values, keeps_plainly, value_of, values_of_no_text

RELATIONS = {"<": "<", "<=": "<=", "=": "==", ">=": ">=", ">": ">", "<>": "!="}
ROWS = [
    [], [("page", "n")], [("at_most", "n", 3)], [("at_most", 3, "n-3")], [("page", "n+1"), ("at_most", 2, "n")],
    [("at_most", 2, 1)], [("page", "n"), ("page", "n-1")], [("at_most", 1, 2), ("page", 0), ("page", 2)],
]
ROWS_OF_TWO = [
    [("at_most", "n", "m-1")], [("page", "n"), ("at_most", "m", "n+2")], [("page", "n+1"), ("page", "m")],
    [("at_most", "n", "m-1"), ("at_most", "m", "n")], [("at_most", "n", "m"), ("at_most", "m", "n"), ("page", "m")],
]


def sizes_up_to(most, names):
    """All sizes below a number for these unknowns."""
    found = [{}]
    for name in names:
        found = [{**sizes, name: size} for sizes in found for size in range(most)]
    return found


def unknowns_of(rows):
    return sorted({text[0] for row in rows for text in row[1:] if str(text)[0].isalpha()})


def settings_keeping(rows, names, page):
    """All settings with small sizes that keep rows; without a page size with two of the large ones."""
    if page:
        return [(sizes, page) for sizes in sizes_up_to(4 * page + 12, names) if keeps_plainly(rows, sizes, page)]
    most = 110 if len(names) < 2 else 100
    return [(sizes, great) for great in (32, 34) for sizes in sizes_up_to(most, names)
            if keeps_plainly(rows, sizes, great)]


def questions():
    """Rows, a page size, and pairs of places that fit them."""
    for page in (None, 1, 2, 3, 31):
        for rows in ROWS:
            yield rows, page, [("n", "n+3"), ("n", 0), ("n-3", "0"), (2, "n+1"), ("n", "n"), (1, 3), ("n-1", "n-2")]
    for rows in [*ROWS_OF_TWO, *ROWS[:4]]:
        yield rows, None, [("n", "m"), ("m-3", "n+3"), ("m", 3), ("n+1", "m"), ("n+2", "n-1"), (0, 2)]


class TestQuestions(Checks):
    def test_against_all_small_settings(self):
        for rows, page, pairs in questions():
            for left, right in pairs:
                self.pair(rows, page, left, right)

    def pair(self, rows, page, left, right):
        facts = Facts(*rows)
        names = unknowns_of([*rows, ("", left, right)])
        signs, apart = set(), set()
        for sizes, great in settings_keeping(rows, names, page):
            one, other = value_of(left, sizes), value_of(right, sizes)
            signs.add("<" if one < other else ">" if one > other else "=")
            apart.add("same" if one // great == other // great else "apart")
        found = orders(left, right, facts, page=page)
        self.assertEqual(set(found), signs, (rows, page, left, right))
        for sign, setting in found.items():
            one, other = self.small(setting, rows, names, page, left, right)
            self.assertEqual(sign, "<" if one < other else ">" if one > other else "=")
        found = pages_apart(left, right, facts, page=page)
        self.assertEqual(set(found), apart, (rows, page, left, right))
        for word, setting in found.items():
            one, other = self.small(setting, rows, names, page, left, right)
            self.assertEqual(word, "same" if one // setting.page == other // setting.page else "apart")
        for relation, sign in RELATIONS.items():
            wanted = all(eval(f"{one} {sign} 0") for one in [{"<": -1, "=": 0, ">": 1}[sign] for sign in signs])
            self.assertIs(always(relation, left, right, facts, page=page), wanted, (relation, left, right, rows))

    def small(self, setting, rows, names, page, left, right):
        """The values of two places in a setting that is told, which is just one that is asked for."""
        self.assertIs(type(setting), Setting)
        sizes = setting.sizes()
        self.assertEqual([sorted(sizes), setting.page], [names, page or 32])
        self.assertTrue(all(0 <= size < 200 for size in sizes.values()))
        self.assertTrue(keeps_plainly(rows, sizes, setting.page))
        return value_of(left, sizes), value_of(right, sizes)

    def test_examples_of_the_document(self):
        facts = Facts(("at_most", "n", "m-1"))
        found = [sorted(orders("n", "m", facts)), sorted(orders("n+1", "m", facts)), sorted(orders("n", 0))]
        self.assertEqual(found, [["<"], ["<", "="], ["=", ">"]])
        found = [
            sorted(pages_apart("n", "n+3")), sorted(pages_apart("n", "n+3", Facts(("page", "n+1")))),
            sorted(pages_apart(0, "n+2", page=1)),
        ]
        self.assertEqual(found, [["apart", "same"], ["apart"], ["apart"]])
        found = [follows(("at_most", 1, "m"), facts), follows(("page", "m"), facts), always("<>", "n", "n+1")]
        self.assertEqual(found, [True, False, True])

    def test_facts_that_bar_one_another(self):
        for facts in [Facts(("at_most", "n", "n-1")), Facts(("at_most", 3, 0)), Facts(("page", 1))]:
            self.assertEqual([orders("n", 3, facts), pages_apart("n", 3, facts)], [{}, {}])
            self.assertEqual([always(relation, "n", "n", facts) for relation in RELATIONS], [True] * 6)
            self.assertIs(follows(("at_most", 1, 0), facts), True)
            self.assertIs(implied(facts, Facts(("page", "n"), ("page", "n+1"))), True)
        self.assertEqual(list(orders("n", 3, Facts(("page", 1)), page=1)), ["<", "=", ">"])

    def test_places_facts_and_words_in_all_forms(self):
        for left, right in [("n", 3), (Place("n"), "3"), ("n", Place(shift=3))]:
            for facts in (None, Facts()):
                self.assertEqual(orders(left=left, right=right, facts=facts, page=None), orders("n", 3))
                self.assertEqual(pages_apart(left=left, right=right, facts=facts, page=None), pages_apart("n", 3))
                self.assertIs(always(relation="<", left=left, right=right, facts=facts, page=None), False)
        self.assertEqual(set(orders("n", 3)), {"<", "=", ">"})
        for call in [lambda: orders("n", 3, None, 7), lambda: pages_apart("n", 3, None, 7)]:
            self.assertRaises(TypeError, call)

    def test_dicts_that_were_told_may_change(self):
        for call in (orders, pages_apart):
            wanted = call("n", 3)
            call("n", 3).clear()
            self.assertEqual(call("n", 3), wanted)
            self.assertIs(type(wanted), dict)

    def test_sixteen_rows_of_two_unknowns(self):
        rows = [("at_most", one, other) for one in ("n+2", "n+3") for other in PLACES_OF_M]
        rows += [("page", "m"), ("page", 0)]
        facts = Facts(*rows)
        self.assertEqual([set(orders("n+3", "m-3", facts)), set(orders("n", "m", facts))], [{"<", "="}, {"<"}])
        self.assertEqual([set(pages_apart("n+3", "m-3", facts)), set(pages_apart("n", "m", facts))],
                         [{"same", "apart"}, {"apart"}])
        self.assertIs(implied(facts, facts), True)
        self.assertIs(implied(facts, Facts(*rows, ("at_most", "n+3", "m-3"))), True)
        self.assertIs(implied(Facts(*rows[1:]), facts), True)
        self.assertIs(implied(Facts(*rows[:7], *rows[8:]), facts), False)

    def test_each_relation(self):
        places = [("n", "n+1"), ("n", "n"), ("n+1", "n"), (0, "n"), ("n", 0), ("n", 1)]
        wanted = {
            "<": [True, False, False, False, False, False], "<=": [True, True, False, True, False, False],
            "=": [False, True, False, False, False, False], ">=": [False, True, True, False, True, False],
            ">": [False, False, True, False, False, False], "<>": [True, False, True, False, False, False],
        }
        for relation, found in wanted.items():
            self.assertEqual([always(relation, left, right) for left, right in places], found)


class TestFollows(Checks):
    def test_against_all_small_settings(self):
        asked = [
            ("page", "n"), ("page", 0), ("page", 3), ("at_most", "n", "n+1"), ("at_most", 1, "n"), ("at_most", "n", 3),
        ]
        of_two = [("page", "m+1"), ("at_most", "n+1", "m"), ("at_most", "m-2", "n"), ("at_most", 1, "m")]
        for rows, page, _ in questions():
            two = unknowns_of(rows) == ["m", "n"]
            found = []
            for row in asked + of_two if two else asked:
                settings = settings_keeping(rows, sorted({*unknowns_of(rows), *unknowns_of([row])}), page)
                wanted = all(keeps_plainly([row], sizes, great) for sizes, great in settings)
                self.assertIs(follows(row, Facts(*rows), page=page), wanted, (row, rows, page))
                found.append((row, wanted))
            sure, unsure = [row for row, wanted in found if wanted], [row for row, wanted in found if not wanted]
            self.assertIs(implied(Facts(*rows), Facts(*sure), page=page), True)
            for row in unsure:
                self.assertIs(implied(Facts(*rows), Facts(*sure[:2], row, *sure[2:]), page=page), False)

    def test_forms_of_the_arguments(self):
        for row in [("at_most", "n", 3), ("at_most", Place("n"), "3")]:
            self.assertIs(follows(fact=row, facts=Facts(("at_most", "n", 2)), page=None), True)
            self.assertIs(follows(row, None), False)
            self.assertIs(follows(row, Facts()), False)
        self.assertIs(implied(one=Facts(), other=Facts(), page=None), True)
        self.assertIs(implied(Facts(), Facts(("at_most", 0, "k")), page=31), True)
        for call in [lambda: follows(("page", 0)), lambda: follows(("page", 0), None, 7), lambda: implied(Facts())]:
            self.assertRaises(TypeError, call)

    def test_each_row_may_have_another_unknown(self):
        rows = [("at_most", 0, "m"), ("at_most", 0, "k+1")]
        self.assertIs(implied(Facts(("page", "n")), Facts(*rows)), True)
        self.assertIs(implied(Facts(("page", "n")), Facts(*rows, ("page", "m"))), False)


class TestErrors(Checks):
    def test_relations(self):
        values = [value for value in any_values() if not isinstance(value, str)]
        for relation in values + ["", "==", "!=", "=<", "=>", "><", " <", "n"]:
            self.refused(InvalidName, {"value": relation}, always, relation, None, None, 0, page=0)

    def test_places(self):
        for call in (orders, pages_apart, lambda *args, **named: always("<", *args, **named)):
            for value in values_of_no_text() + [4, -1, "n+4", ""]:
                self.refused(InvalidPlace, {"value": value}, call, value, 4, 0, page=0)
                self.refused(InvalidPlace, {"value": value}, call, "n", value, 0, page=0)

    def test_facts_and_page_sizes(self):
        wrong = [value for value in any_values() if not (value is None or isinstance(value, Facts))]
        pages = values_of_no_text()[1:] + [0, 32, -1, "7"]
        for call in (orders, pages_apart, lambda *args, **named: always("<", *args, **named)):
            for facts in wrong:
                self.refused(InvalidFacts, {"value": facts}, call, "n", "m", facts, page=0)
            for page in pages:
                self.refused(InvalidInteger, {"value": page}, call, "n", "m", Facts(("page", "k")), page=page)
        for facts in wrong:
            self.refused(InvalidFacts, {"value": facts}, follows, ("page", "n"), facts, page=0)
        for page in pages:
            self.refused(InvalidInteger, {"value": page}, follows, ("page", "n"), None, page=page)
            self.refused(InvalidInteger, {"value": page}, implied, Facts(), Facts(), page=page)

    def test_too_many_unknowns(self):
        facts, n, m = Facts(("page", "k")), Place("n"), Place("m")
        for call in (orders, pages_apart, lambda *args, **named: always("<", *args, **named)):
            self.refused_with_list(InvalidPlaces, [n, m], call, "n", m, facts)
            self.refused_with_list(InvalidPlaces, [n + 1, m], call, "n+1", "m", page=31)
            self.refused_with_list(InvalidPlaces, [n, Place(shift=2)], call, "n", 2, facts, page=1)
        self.refused_with_list(InvalidPlaces, [n, m - 1], follows, ("at_most", "n", "m-1"), facts)
        self.refused_with_list(InvalidPlaces, [n], follows, ("page", "n"), facts, page=31)
        self.refused_with_list(InvalidPlaces, [n, m], follows, ("at_most", "n", m), None, page=31)
        two = Facts(("at_most", "n", "m"))
        self.refused_with_list(InvalidPlaces, [Place()], follows, ("page", 0), two, page=31)

    def test_rows(self):
        for row in any_values() + [("page", 4), ["page", "n"], ("at_most", "n")]:
            self.refused(InvalidFact, {"value": row}, follows, row, 0, page=0)

    def test_implied(self):
        for value in [value for value in any_values() if not isinstance(value, Facts)]:
            self.refused(InvalidFacts, {"value": value}, implied, value, 0, page=0)
            self.refused(InvalidFacts, {"value": value}, implied, Facts(), value, page=0)
        n, m, k = Place("n"), Place("m"), Place("k")
        other = Facts(("at_most", 2, 1), ("page", "m"), ("at_most", "k", "m+1"), ("page", "k"))
        self.refused_with_list(InvalidPlaces, [k, m + 1], implied, Facts(("page", n)), other)
        self.refused_with_list(InvalidPlaces, [m], implied, Facts(("page", n)), other, page=5)
        two = Facts(("at_most", "n", "m"))
        self.refused_with_list(InvalidPlaces, [Place(shift=2), Place(shift=1)], implied, two, other, page=5)
        self.assertIs(implied(two, Facts(), page=5), True)
