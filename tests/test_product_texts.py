"""[12.2], [12.3] and the functions of prefixtable.powers.words."""

import itertools
import random
import unittest

from prefixtable.errors import InvalidNumber, InvalidOperation, InvalidTable, TooMany, UnknownName
from prefixtable.powers.words import reduced_texts, relations, shortest_text, value_of, word_value
from prefixtable.tables.building import in_order, within
from prefixtable.tables.table import Table
from small import LONG, NOT_SMALL, NOT_SQUARE, TEN, TWO_ROOTS, small_tables
from support import KEEPS_NOTHING, OTHER_VALUES, Case
from tables import FLIP, LAST, NO_TABLES, SPLIT, F, G
from test_reduced import shuffled
from test_regions import SIXTY_ONE

NO_TEXTS = [value for value in OTHER_VALUES if value != "" and value != "a"] + [
    " ", "f ", " f", "f  g", "f\ng", "f\n", "f\tg", "F", "f G", "f1", "~", "~~f", "f ~", "f~", "-f", "f*g", "f * g",
    "abcdefghi", "~abcdefghi", "f abcdefghi", " ".join(["f"] * 61), " ".join(["~f"] * 61), ["f"], ("f",), F, "f,g",
    "f ~ g", "\u00e9"]
# Named tables that are none, each with its error; the value is that of TooMany.
WRONG_TABLES = [(InvalidOperation, KEEPS_NOTHING, value) for value in OTHER_VALUES + [
    {}, F, [F], (F,), {"a": F, "b": F, "c": F, "d": F}, {"": F}, {"A": F}, {"abcdefghi": F}, {"a b": F}, {"~a": F},
    {"a1": F}, {0: F}, {None: F}, {("a",): F}, {"a": F, 1: F}, {True: F}, {"a": None, "": F},
    {"a": SPLIT}, {"a": F, "b": SPLIT}, {"a": F, "b": TWO_ROOTS}, {"a": TWO_ROOTS, "b": F},
    {"a": F, "b": Table.identity(3)}, {"b": None, "a": SPLIT}, {"a": F, "c": None, "b": TWO_ROOTS},
    {"c": None, "a": TEN, "b": Table.identity(3)}]]
WRONG_TABLES += [(InvalidTable, KEEPS_NOTHING, value) for value in [{"a": value} for value in NO_TABLES] + [
    {"a": F, "b": None}, {"b": SPLIT, "a": None}, {"a": TEN, "b": F.rows}, {"z": SPLIT, "y": "f", "x": F}]]


def factor_value(text, tables):
    """Return the product of the factors of a text, one after another."""
    first = list(tables.values())[0]
    found = Table.identity(first.base, roots=first.left_roots)
    for letter in text.split():
        found = found * (~tables[letter[1:]] if letter[0] == "~" else tables[letter])
    return found


def plain_texts(names, length):
    """Return the reduced texts with so many letters by trying all texts."""
    letters = list(names) + ["~" + name for name in names]
    rows = [row for row in itertools.product(letters, repeat=length)
            if not any(one == "~" + other or other == "~" + one for one, other in zip(row, row[1:]))]
    return sorted(" ".join(row) for row in rows)


class ExamplesTest(Case):

    def test_printed_examples(self):
        self.assertEqual([value_of("f ~g f", f=F, g=G) == F * ~G * F, word_value("", {"f": F}) == Table.identity(2)],
                         [True, True])
        self.assertEqual([list(relations({"h": FLIP}, 2)), shortest_text(F ** 4, {"f": F, "g": G}, 4),
                          shortest_text(G, {"f": F}, 4)], [["h h", "~h ~h"], "~f", None])


class ValueTest(Case):

    def test_values_factor_by_factor(self):
        chance = random.Random(1)
        names = {"f": F, "gg": G, "abcdefgh": FLIP}
        letters = [sign + name for name in names for sign in ("", "~")]
        for size in (0, 1, 2, 3, 10, 59, 60):
            for _ in range(10):
                text = " ".join(chance.choice(letters) for _ in range(size))
                told = word_value(text, names)
                self.assertEqual(told, factor_value(text, names))
                self.assertEqual(value_of(text, **names), told)
        self.assertEqual(value_of("a b ~a", a=F, b=G), F * G * ~F)
        # The last factor is done first.
        self.assertEqual(value_of("f g", f=F, g=G)[(0, "01")], (0, "00"))
        self.assertEqual(word_value("text", {"text": F, "id": G}), F)
        self.assertEqual(word_value("id ~id id", {"id": G}), G)
        self.assertEqual(value_of("", a=TWO_ROOTS), Table.identity(2, roots=2))
        self.assertEqual(value_of("a ~a ~a a", a=TWO_ROOTS), Table.identity(2, roots=2))
        self.assertEqual(len(value_of(" ".join(["g"] * 60), g=G)), 62)

    def test_texts_that_are_none(self):
        self.assertIn("", OTHER_VALUES)
        for text in NO_TEXTS:
            self.check_error(InvalidOperation, KEEPS_NOTHING, word_value, text, {"f": F, "g": G})
            self.check_error(InvalidOperation, KEEPS_NOTHING, word_value, text, None)
            self.check_error(InvalidOperation, KEEPS_NOTHING, value_of, text, f=None)
        self.assertEqual(len(word_value(" ".join(["~f"] * 60), {"f": G})), 62)

    def test_tables_that_are_none(self):
        for error, value, tables in WRONG_TABLES:
            self.check_error(error, value, word_value, "x y", tables)
            self.check_error(error, value, lambda: list(reduced_texts(tables, None)))
            self.check_error(error, value, lambda: list(relations(tables, -1)))
            self.check_error(error, value, shortest_text, LONG, tables, None)

    def test_unknown_names_and_tables_that_are_not_small(self):
        for text, name in (("x", "x"), ("~x", "x"), ("f y x", "y"), ("f ~x y", "x"), ("f g z ~z", "z")):
            self.check_error(UnknownName, name, word_value, text, {"f": F, "g": G})
            self.check_error(UnknownName, name, word_value, text, {"f": F, "g": TEN})
            self.check_error(UnknownName, name, value_of, text, f=SIXTY_ONE, g=G)
        for tables in ({"f": TEN}, {"f": F, "g": TEN}, {"f": TEN, "g": SIXTY_ONE}):
            self.check_error(TooMany, 9, word_value, "f", tables)
            self.check_error(TooMany, 9, word_value, "", tables)
        for table in NOT_SMALL:
            self.check_error(TooMany, 9, value_of, "f f", f=table)


class ReducedTextsTest(Case):

    def test_all_texts_of_each_length(self):
        for names in (["a"], ["a", "b"], ["ab", "a"], ["b", "a", "abc"], ["z", "zz", "id"]):
            tables = {name: F for name in names}
            for length in range(5 if len(names) > 1 else 9):
                told = list(reduced_texts(tables, length))
                self.assertEqual(told, plain_texts(names, length))
                self.assertEqual(told, sorted(told))
        self.assertEqual(list(reduced_texts({"a": F}, 60)), [" ".join(["a"] * 60), " ".join(["~a"] * 60)])
        self.assertEqual(list(reduced_texts({"a": F, "b": G}, 1)), ["a", "b", "~a", "~b"])
        self.assertEqual(list(reduced_texts({"a": F}, 0)), [""])

    def test_texts_that_are_asked_for_in_part(self):
        texts = reduced_texts({"a": F, "b": G}, 7)
        self.assertEqual([next(texts), next(texts)], ["a a a a a a a", "a a a a a a b"])
        told = relations({"a": FLIP, "b": LAST}, 4)
        self.assertEqual(next(told), "a a a a")

    def test_bound(self):
        for call in (reduced_texts, relations):
            self.check_error(TooMany, 5000, lambda: list(call({"a": F, "b": G}, 8)))
            self.check_error(TooMany, 5000, lambda: next(call({"a": F, "b": G, "c": FLIP}, 6)))
            self.check_error(TooMany, 5000, lambda: next(call({"a": F, "b": G, "c": FLIP}, 60)))
            for value in OTHER_VALUES + [61, 10 ** 30]:
                if value is True or value is False or not isinstance(value, int) or not 0 <= value <= 60:
                    self.check_error(InvalidNumber, value, lambda: list(call({"a": F}, value)))
                    self.check_error(InvalidNumber, value, lambda: list(call({"a": TEN, "b": F}, value)))
            self.check_error(TooMany, 9, lambda: list(call({"a": F, "b": TEN}, 8)))
            self.check_error(TooMany, 9, lambda: list(call({"a": F, "b": TEN}, 0)))
        self.assertEqual(len(list(reduced_texts({"a": F, "b": G}, 7))), 4 * 3 ** 6)
        self.assertEqual(len(list(reduced_texts({"a": F, "b": G, "c": FLIP}, 5))), 6 * 5 ** 4)


class RelationsTest(Case):

    def test_relations_are_the_texts_that_change_nothing(self):
        for tables in ({"a": F}, {"a": F, "b": FLIP}, {"f": FLIP, "g": LAST, "h": G}, {"x": G, "y": G},
                       {"p": within(G, 1, (0, "0")), "q": within(G, 1, (0, "1"))}):
            for length in range(5):
                told = list(relations(tables, length))
                self.assertEqual(told, [text for text in plain_texts(list(tables), length)
                                        if not factor_value(text, tables)])
                backwards = [" ".join(letter[1:] if letter[0] == "~" else "~" + letter
                                      for letter in text.split()[::-1]) for text in told]
                self.assertEqual(sorted(backwards), told)
        told = list(relations({"c": FLIP, "a": FLIP, "b": FLIP}, 2))
        self.assertEqual([told, len(told)], [sorted(told), 30])
        self.assertEqual(list(relations({"a": F}, 0)), [""])
        self.assertEqual(list(relations({"a": F}, 60)), [" ".join(["a"] * 60), " ".join(["~a"] * 60)])
        self.assertEqual(list(relations({"a": G}, 60)), [])
        self.assertIn("p q ~p ~q", list(relations({"p": within(G, 1, (0, "0")), "q": within(F, 1, (0, "1"))}, 4)))

    def test_many_texts(self):
        told = list(relations({"a": LONG, "b": FLIP}, 7))
        self.assertTrue(all(not factor_value(text, {"a": LONG, "b": FLIP}) for text in told))
        self.assertEqual(len(list(relations({"a": FLIP, "b": FLIP, "c": FLIP}, 4))), 6 * 5 ** 3)


class ShortestTextTest(Case):

    def test_smallest_texts(self):
        chance = random.Random(2)
        for tables in ({"a": F, "b": G}, {"b": FLIP, "a": LAST}, {"z": G, "y": F, "x": FLIP}, {"ab": F, "a": G}):
            texts = [text for length in range(4) for text in plain_texts(list(tables), length)]
            values = [factor_value(text, tables) for text in texts]
            for _ in range(25):
                target = factor_value(chance.choice(plain_texts(list(tables), chance.randrange(5))), tables)
                fits = [text for text, value in zip(texts, values) if value == target]
                self.assertEqual(shortest_text(target, tables, 3), fits[0] if fits else None)
                for most in (0, 1, 2):
                    short = [text for text in fits if len(text.split()) <= most]
                    self.assertEqual(shortest_text(target, tables, most), short[0] if short else None)
        self.assertEqual(shortest_text(Table.identity(2), {"a": F}, 60), "")
        self.assertEqual(shortest_text(G ** 7 * F, {"g": G, "f": F}, 7), None)
        self.assertEqual(shortest_text(G ** 6 * F, {"g": G, "f": F}, 7), "g g g g g g f")
        self.assertEqual(shortest_text(G ** 60, {"g": G}, 60), " ".join(["g"] * 60))
        self.assertEqual(shortest_text(FLIP, {"a": F, "h": FLIP}, 5), "h")
        self.assertEqual(shortest_text(FLIP, {"h": FLIP, "a": FLIP}, 5), "a")

    def test_targets_that_no_text_has(self):
        for target in (LONG, TEN, SIXTY_ONE, shuffled(5000)):
            self.assertIsNone(shortest_text(target, {"a": F, "b": G}, 3))
        self.assertIsNone(shortest_text(F, {"a": F}, 0))

    def test_errors(self):
        for value in NO_TABLES:
            self.check_error(InvalidTable, KEEPS_NOTHING, shortest_text, value, None, None)
            self.check_error(InvalidTable, KEEPS_NOTHING, shortest_text, value, {"a": F}, 3)
        targets = NOT_SQUARE + [Table.identity(3), TWO_ROOTS, in_order(2, ((0, "0"), (0, "1")), ((0, ""), (1, "")))]
        for target in targets:
            self.check_error(InvalidOperation, KEEPS_NOTHING, shortest_text, target, {"a": F}, None)
            self.check_error(InvalidOperation, KEEPS_NOTHING, shortest_text, target, {"a": TEN}, 60)
            self.check_error(InvalidTable, KEEPS_NOTHING, shortest_text, target, {"a": None}, None)
        for most in (-1, 61, True, None, "3", (1,)):
            self.check_error(InvalidNumber, most, shortest_text, F, {"a": F}, most)
            self.check_error(InvalidNumber, most, shortest_text, F, {"a": TEN}, most)
        self.check_error(TooMany, 9, shortest_text, F, {"a": TEN}, 3)
        self.check_error(TooMany, 9, shortest_text, F, {"a": TEN, "b": F}, 60)
        self.check_error(TooMany, 5000, shortest_text, F, {"a": F, "b": G}, 8)
        self.check_error(TooMany, 5000, shortest_text, Table.identity(2), {"a": F, "b": G, "c": G}, 6)
        self.assertEqual(shortest_text(F, {"a": F, "b": G}, 7), "a")

    def test_all_small_tables(self):
        for table in small_tables(3, 40):
            self.assertEqual(shortest_text(table ** 2, {"t": table}, 3), "" if not table ** 2 else
                             [text for text in ("t", "~t", "t t", "~t ~t") if factor_value(text, {"t": table})
                              == table ** 2][0])


if __name__ == "__main__":
    unittest.main()
