"""[13.1], [13.2] and the functions of prefixtable.desk.formulas."""

import random
import unittest

from prefixtable.desk.formulas import format_formula, formula_value, is_formula, names_in, parse_formula
from prefixtable.errors import InvalidOperation, InvalidTable, ParseError, TooMany, UnknownName
from prefixtable.tables.building import in_order, within
from prefixtable.tables.table import Table
from small import NOT_SQUARE, TEN, TWO_ROOTS
from support import KEEPS_NOTHING, OTHER_VALUES, Case, changed
from tables import FLIP, LAST, NO_TABLES, SPLIT, F, G
from test_codes import comb_code
from test_reduced import shuffled
from test_regions import SIXTY_ONE

A, B, ID = ("name", "a"), ("name", "b"), ("id",)
NO_NAMES = [value for value in OTHER_VALUES if value != "a"] + [
    "id", "A", "aB", "abcdefghi", "a1", "a ", " a", "a\n", "~a", "a_b", "\u00e9", ("a",), ["a"], F]
FORMULAS = [
    (A, "a"), (ID, "id"), (("name", "abcdefgh"), "abcdefgh"), (("inverse", A), "~a"), (("inverse", ID), "~id"),
    (("inverse", ("inverse", A)), "~~a"), (("power", A, 2), "a ** 2"), (("power", A, -2), "a ** -2"),
    (("power", A, 0), "a ** 0"), (("power", ID, 60), "id ** 60"), (("power", A, -60), "a ** -60"),
    (("product", A, B), "a * b"), (("product", A, A, ID), "a * a * id"), (("power", ("inverse", A), 2), "~a ** 2"),
    (("inverse", ("power", A, 2)), "~(a ** 2)"), (("inverse", ("product", A, ID)), "~(a * id)"),
    (("power", ("product", A, B), 3), "(a * b) ** 3"), (("power", ("power", A, 2), 3), "(a ** 2) ** 3"),
    (("product", ("power", A, 2), ("inverse", B), ("inverse", ("product", A, B))), "a ** 2 * ~b * ~(a * b)"),
    (("product", ("power", ("product", A, B), -1), ("power", ("inverse", ("product", B, A)), 1)),
     "(a * b) ** -1 * ~(b * a) ** 1"), (("product",) + (A,) * 12, " * ".join(["a"] * 12)),
    (("inverse", ("inverse", ("power", ("inverse", ("inverse", ("power", A, 5))), 7))), "~~(~~(a ** 5) ** 7)")]


def nested(formula, many, kind):
    """Return a formula inside of so many inverses, powers or products in turn."""
    for at in range(many):
        formula = {"inverse": ("inverse", formula), "power": ("power", formula, at),
                   "mixed": ("product", formula, A) if at % 2 else ("inverse", formula)}[kind]
    return formula


def plain_name(value):
    """Tell by the definition whether a value is a name."""
    return (isinstance(value, str) and 1 <= len(value) <= 8 and value != "id"
            and all(letter in "abcdefghijklmnopqrstuvwxyz" for letter in value))


def plain_formula(value, depth=1):
    """Tell by the definition whether a value is a formula."""
    if depth > 8 or not isinstance(value, tuple) or not value or not isinstance(value[0], str):
        return False
    kind, parts = value[0], value[1:]
    if kind in ("name", "id"):
        return len(parts) == (kind == "name") and all(plain_name(part) for part in parts)
    if kind == "inverse":
        return len(parts) == 1 and plain_formula(parts[0], depth + 1)
    if kind == "power":
        return (len(parts) == 2 and plain_formula(parts[0], depth + 1) and isinstance(parts[1], int)
                and not isinstance(parts[1], bool) and -60 <= parts[1] <= 60)
    return (kind == "product" and 2 <= len(parts) <= 12
            and all(plain_formula(part, depth + 1) and part[0] != "product" for part in parts))


def plain_text(value):
    """Return the text of a formula by the definition."""
    kind, parts = value[0], value[1:]
    if kind in ("name", "id"):
        return (kind,  *parts)[-1]
    if kind == "product":
        return " * ".join(plain_text(part) for part in parts)
    inner = plain_text(parts[0])
    if parts[0][0] in ("power", "product"):
        inner = "(" + inner + ")"
    return "~" + inner if kind == "inverse" else inner + " ** " + str(parts[1])


def chance_formula(chance, names, depth=8, factor=False):
    """Return a formula over such names that is nested at most so deep."""
    kind = chance.choice(["name", "name", "id", "inverse", "power", "product"])
    if depth == 1 or kind in ("name", "id"):
        return ID if kind == "id" else ("name", chance.choice(names))
    if kind == "product" and not factor:
        parts = [chance_formula(chance, names, depth - 1, True) for _ in range(chance.randrange(2, 5))]
        return ("product", *parts)
    inner = chance_formula(chance, names, depth - 1)
    return ("inverse", inner) if kind == "inverse" else ("power", inner, chance.randrange(-3, 4))


def plain_value(formula, tables):
    """Return the value of a formula by the definition."""
    kind, parts = formula[0], formula[1:]
    first = list(tables.values())[0]
    found = Table.identity(first.base, roots=first.left_roots)
    if kind == "name":
        return tables[parts[0]]
    if kind == "inverse":
        return ~plain_value(parts[0], tables)
    if kind == "power":
        return plain_value(parts[0], tables) ** parts[1]
    for part in parts:
        found = found * plain_value(part, tables)
    return found


class ExamplesTest(Case):

    def test_printed_examples(self):
        self.assertEqual([parse_formula("~a ** 2"), format_formula(("inverse", ("product", ("name", "a"), ("id",))))],
                         [("power", ("inverse", ("name", "a")), 2), "~(a * id)"])


class FormTest(Case):

    def test_each_form_and_its_text(self):
        for formula, text in FORMULAS:
            self.assertIs(is_formula(formula), True)
            self.assertEqual(format_formula(formula), text)
            self.assertEqual(parse_formula(text), formula)

    def test_changed_forms(self):
        found = 0
        for formula, _ in FORMULAS:
            for value in changed(formula):
                told = plain_formula(value)
                found = found + told
                self.assertIs(is_formula(value), told, value)
                if told:
                    self.assertEqual(parse_formula(format_formula(value)), value)
                else:
                    self.check_error(InvalidOperation, KEEPS_NOTHING, format_formula, value)
                    self.check_error(InvalidOperation, KEEPS_NOTHING, names_in, value)
        self.assertGreater(found, 50)
        for name in NO_NAMES:
            for value in (("name", name), ("product", A, ("name", name)), ("inverse", ("name", name))):
                self.assertIs(is_formula(value), False, value)

    def test_depths(self):
        for kind in ("inverse", "power", "mixed"):
            for many in range(12):
                value = nested(A, many, kind)
                self.assertIs(is_formula(value), many < 8)
                if many < 8:
                    self.assertEqual(parse_formula(format_formula(value)), value)
                else:
                    self.check_error(ParseError, KEEPS_NOTHING, parse_formula, plain_text(value))
        self.assertIs(is_formula(("product", A, nested(ID, 6, "inverse"))), True)
        self.assertIs(is_formula(("product", A, nested(ID, 7, "inverse"))), False)
        self.assertIs(is_formula(("product", A, nested(("product", A, A), 5, "power"))), True)
        self.assertIs(is_formula(("product", A, nested(("product", A, A), 6, "power"))), False)

    def test_numbers_of_factors(self):
        for many in range(16):
            value = ("product",) + (A, B) * (many // 2) + (A,) * (many % 2)
            self.assertIs(is_formula(value), 2 <= many <= 12)
            if many > 12:
                self.check_error(ParseError, KEEPS_NOTHING, parse_formula, plain_text(value))
        for value in (("product", ("product", A, B), A), ("product", A, ("product", A, B))):
            self.assertIs(is_formula(value), False)
        value = A
        for _ in range(7):
            value = ("product",) + (value,) * 12
        self.assertIs(is_formula(value), False)
        self.assertIs(is_formula(("product", A, ("power", ("product", A, B), 1))), True)

    def test_exponents(self):
        for n in list(range(-70, 71)) + [True, False, None, "2", (2,), 10 ** 59, -10 ** 59]:
            right = isinstance(n, int) and not isinstance(n, bool) and -60 <= n <= 60
            self.assertIs(is_formula(("power", A, n)), right)
            if right:
                self.assertEqual(parse_formula(f"a ** {n}"), ("power", A, n))
            elif isinstance(n, int):
                self.check_error(ParseError, KEEPS_NOTHING, parse_formula, f"a ** {n}")

    def test_any_formulas(self):
        chance = random.Random(1)
        for _ in range(600):
            formula = chance_formula(chance, ("a", "b", "zz"))
            self.assertIs(is_formula(formula), True)
            text = plain_text(formula)
            self.assertEqual(format_formula(formula), text)
            self.assertEqual(parse_formula(text), formula)
            for _ in range(5):
                at = chance.randrange(len(text) + 1)
                sign = chance.choice(["", " ", "(", ")", "~", "*", "a", "id", "0", "-", "1"])
                self.check_nearly(text[:at] + sign + text[at + chance.randrange(2):])

    def check_nearly(self, text):
        """Check that a text is either refused, or read as a formula whose text it is."""
        try:
            formula = parse_formula(text)
        except ParseError:
            return
        self.assertTrue(plain_formula(formula))
        self.assertEqual(plain_text(formula), text)

    def test_texts_that_are_nearly_right(self):
        texts = ["", " ", "a ", " a", "(a)", "((a * b))", "~(a)", "~(~a)", "~(id)", "(~a) ** 2", "(a) ** 2", "a ** 02",
                 "a ** -0", "a ** +2", "a ** 2.0", "a ** 00", "a **2", "a** 2", "a**2", "a ** 2 ** 3", "~a ** 2 ** 3",
                 "a ** 2 3", "a ** - 2", "a ** --2", "a ** ", "a **", "** 2", "a * ", "* a", "a *b", "a* b", "a*b",
                 "a  * b", "a *  b", "a * * b", "a b", "a, b", "~", "~ a", "~~", "~(a * b", "~a * b)", "(a * b) * a",
                 "a * (b * a)", "(a * b", "a * b)", "((a * b) ** 2", "((a * b)) ** 2", "(a ** 2) * b", "a * (b ** 2)",
                 "~((a ** 2))", "a\n", "a * b\n", "\na", "a\t* b", "A", "a1", "abcdefghi", "a * Id", "ID", "()", "~()",
                 "(", ")", "a()", "1", "2 ** a", "a ** b", "a ** id", "a ** (2)", "a / b", "a + b", "\u00e9", "a ** \u00b2",
                 "a ** 1_0", "a ** \u0663", "(" * 300, "~" * 300, "~" * 5000, "(" * 5000, "~(" * 5000, "~" * 299 + "a", "(" * 100 + "a" + ")" * 100,
                 "a" * 300, "a ** " + "9" * 290, "a * " * 70 + "a", "a ** 2" * 50]
        for text in texts:
            self.check_error(ParseError, KEEPS_NOTHING, parse_formula, text)
        for _, text in FORMULAS:
            for at in range(len(text)):
                for other in (text[:at] + text[at + 1:], text[:at + 1] + text[at:], text[:at] + " " + text[at:],
                              text[:at] + "(" + text[at:], text[:at] + ")" + text[at:], text[:at] + "~" + text[at:]):
                    self.check_nearly(other)
        for value in [value for value in OTHER_VALUES if value != "a"] + [F, ["a"], ("a",), A, ("name", "a")]:
            self.check_error(ParseError, KEEPS_NOTHING, parse_formula, value)

    def test_long_texts(self):
        formula = A
        for at in range(3):
            formula = ("power", ("product",) + (formula,) * 12, at)
        text = format_formula(formula)
        self.assertGreater(len(text), 5000)
        self.assertEqual(parse_formula(text), formula)
        self.assertEqual(names_in(formula), ("a",))
        self.check_error(ParseError, KEEPS_NOTHING, parse_formula, text + ")")

    def test_names(self):
        self.assertEqual([names_in(formula) for formula in (A, ID, ("product", B, A, B, ("inverse", ("name", "ab"))))],
                         [("a",), (), ("a", "ab", "b")])
        self.assertEqual(names_in(("power", ("product", ("name", "power"), ("name", "name")), 3)), ("name", "power"))
        for value in NO_NAMES + NO_TABLES + ["a", ("a",)]:
            for call in (names_in, format_formula, lambda value: formula_value(value, None)):
                self.check_error(InvalidOperation, KEEPS_NOTHING, call, value)


class ValueTest(Case):

    def test_values_by_the_definition(self):
        chance = random.Random(2)
        found = 0
        tables = {"a": F, "b": G, "c": FLIP, "d": LAST}
        for _ in range(400):
            formula = chance_formula(chance, sorted(tables), 5)
            try:
                told = plain_value(formula, tables)
            except TooMany:
                self.check_error(TooMany, 5000, formula_value, formula, tables)
                continue
            found = found + 1
            self.assertEqual(formula_value(formula, tables), told)
            self.assertEqual(formula_value(parse_formula(format_formula(formula)), tables), told)
        self.assertGreater(found, 300)
        self.assertEqual(formula_value(parse_formula("~a * b ** 2"), {"a": F, "b": G}), ~F * (G * G))
        self.assertEqual(formula_value(ID, {"x": TWO_ROOTS}), Table.identity(2, roots=2))
        self.assertEqual(formula_value(parse_formula("x ** 3 * id"), {"x": TWO_ROOTS}), Table.identity(2, roots=2))
        self.assertEqual(formula_value(A, {"a": TEN, "b": SIXTY_ONE}), TEN)

    def test_products_come_from_the_left(self):
        one, two = within(shuffled(3000), 1, (0, "0")), within(shuffled(3000), 1, (0, "1"))
        tables = {"a": one, "b": ~one, "c": two}
        # From the left, a * b changes nothing, but a * c or c * b have too many rows.
        self.assertEqual(formula_value(parse_formula("a * b * c"), tables), two)
        self.assertEqual(formula_value(parse_formula("c * ~c * a"), tables), one)
        for text in ("a * c * b", "a * c", "b * c * a", "~(a * c) * a * c", "(a * c) ** 0", "c * (a * c) ** 0"):
            self.check_error(TooMany, 5000, formula_value, parse_formula(text), tables)

    def test_powers_on_the_way(self):
        table = in_order(2, comb_code(2, 3000), tuple(sorted((0, word.translate({48: "1", 49: "0"}))
                                                             for _, word in comb_code(2, 3000))))
        self.check_error(TooMany, 5000, lambda: table ** 2)
        for n in (2, -2, 3, 60):
            self.check_error(TooMany, 5000, formula_value, ("power", A, n), {"a": table})
        self.check_error(TooMany, 5000, formula_value, ("power", ("power", A, 2), 0), {"a": table})
        self.assertEqual(formula_value(("power", A, -1), {"a": table}), ~table)
        deep = ("power", ("power", ("power", A, 60), 60), 60)
        self.check_error(TooMany, 5000, formula_value, deep, {"a": G})
        self.assertEqual(formula_value(deep, {"a": FLIP}), Table.identity(2))
        self.assertEqual(len(formula_value(("power", ("power", A, 60), 60), {"a": G})), 3602)

    def test_errors(self):
        right = {"a": F, "b": G}
        wrong = OTHER_VALUES + [F, [F], {"a": None}, {"a": F.rows}, {"id": F}, {"A": F}, {"": F}, {"abcdefghi": F},
                                {"a": SPLIT}, {"a": F, "b": Table.identity(3)}, {"a": F, "b": TWO_ROOTS}, {1: F},
                                {None: F}, {"a": F, "id": F}, {"a": F, "b": None}, {"a": F, ("b",): F}]
        wrong += [{"a": table} for table in NOT_SQUARE] + [{"a": value} for value in NO_TABLES]
        for tables in wrong:
            for formula in (A, ID, ("name", "x")):
                self.check_error(InvalidTable, KEEPS_NOTHING, formula_value, formula, tables)
            self.check_error(InvalidOperation, KEEPS_NOTHING, formula_value, ("name", "id"), tables)
        for text, name in (("x", "x"), ("y * x", "x"), ("a * z * ~y", "y"), ("(a * z) ** 0", "z")):
            self.check_error(UnknownName, name, formula_value, parse_formula(text), right)
            self.check_error(UnknownName, name, formula_value, parse_formula(text), {"a": shuffled(5000), "b": G})


if __name__ == "__main__":
    unittest.main()
