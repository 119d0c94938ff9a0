"""[0.1] to [0.14] over the whole program: the interface, wrong arguments, and answers that agree with one another."""

import ast
import copy
import importlib
import itertools
import math
import pathlib
import random
import unittest

from prefixtable import errors
from prefixtable.base.streams import begins_with
from prefixtable.desk.desk import Desk
from prefixtable.graphs.circles import growing_circles, loop_lengths, order, shrinking_circles
from prefixtable.graphs.matching import are_alike, is_likeness_certificate, likeness_certificate
from prefixtable.orders.growth import is_order_certificate, order_certificate
from prefixtable.orders.orbits import exponent, is_orbit_certificate, limit_cycle, orbit_certificate, return_time
from prefixtable.powers.powers import commute, exponent_between
from prefixtable.powers.words import relations, shortest_text
from prefixtable.recodings.recodings import is_recoding, recoding
from prefixtable.recodings.reduced import is_reduced_form, recoded, reduced_form
from prefixtable.sets.regions import Region, first_returns, is_kept, never_back
from prefixtable.tables.kinds import fixed_prefixes, lone_fixed_streams
from prefixtable.tables.table import Table, difference
from prefixtable.text.formats import Codec
from changes import chance_change
from interface import (
    A, CLASSES, CLASS_VALUES, CONSTANTS, ENDLESS, FUNCTIONS, MAKERS, METHODS, X, ZERO)
from small import counter, small_tables
from support import OTHER_VALUES, Case, all_streams, chance_streams
from tables import FLIP, SPLIT, F, G
from test_graphs import FLIP_GRAPH

PACKAGE = pathlib.Path(__file__).resolve().parent.parent / "prefixtable"
ERRORS = tuple(value for value in vars(errors).values() if isinstance(value, type) and issubclass(value, Exception))
# What stands in the place of right arguments: values of all kinds, objects of the package, and long values.
STRANGE = OTHER_VALUES + [F, SPLIT, G ** 20, ZERO, Region.whole(3, 2), Codec(2), Desk(2), FLIP_GRAPH, A, X, ("name", "a"),
                          {"f": F}, {"f": G ** 20}, "f f", "0" * 5000, (0, "01" * 4000), (0, "", "0" * 2000 + "1"),
                          {"f": {"g": [((((("x",),),),),)]}}, ((),) * 6000, 10 ** 59, [F], (F, G), ("give", "f", F.rows)]


def module_of(name):
    return importlib.import_module("prefixtable." + name)


def split_arguments(told):
    """Return the arguments by position, and those by keyword: the last one, if its keys are names of parameters."""
    if told and isinstance(told[-1], dict) and set(told[-1]) <= {"roots", "row_limit", "steps", "most"}:
        return list(told[:-1]), dict(told[-1])
    return list(told), {}


def all_calls():
    """Return tuples (name, call, arguments, keywords) for everything that can be called."""
    found = []
    for module, functions in FUNCTIONS.items():
        for name, told in functions.items():
            call = getattr(module_of(module), name)
            if name == "value_of":
                found.append((name, call, list(told[:1]), dict(told[1])))
            else:
                found.append((name, call, *split_arguments(told)))
    for module, classes in CLASSES.items():
        for kind in classes:
            owner = getattr(module_of(module), kind)
            for name, told in MAKERS[kind]:
                call = owner if name == "__init__" else getattr(owner, name)
                found.append((kind + "." + name, call, *split_arguments(told)))
    for make, methods in METHODS:
        for name, told in methods.items():
            found.append((name, getattr(make(), name), *split_arguments(told)))
    return found


def result_of(name, call, parts, named):
    """Return what a call returns; of what it yields, the first values."""
    told = call(*parts, **named)
    if hasattr(told, "__next__"):
        return list(itertools.islice(told, 30 if name in ENDLESS else 5001))
    return told


class InterfaceTest(unittest.TestCase):

    def test_functions_are_defined_in_their_modules(self):
        for module, functions in FUNCTIONS.items():
            tree = ast.parse((PACKAGE / (module.replace(".", "/") + ".py")).read_text())
            defined = [row.name for row in tree.body if isinstance(row, ast.FunctionDef)]
            self.assertLessEqual(set(functions), set(defined), module)

    def test_methods_are_defined_in_their_classes(self):
        for module, classes in CLASSES.items():
            tree = ast.parse((PACKAGE / (module.replace(".", "/") + ".py")).read_text())
            for name, methods in classes.items():
                body = [row for row in tree.body if isinstance(row, ast.ClassDef) and row.name == name][0].body
                defined = [row.name for row in body if isinstance(row, ast.FunctionDef)]
                self.assertLessEqual(set(methods.split()), set(defined), name)

    def test_constants(self):
        for module, told in CONSTANTS.items():
            for name, value in told.items():
                self.assertEqual(getattr(module_of(module), name), value)
        for (module, kind), told in CLASS_VALUES.items():
            for name, value in told.items():
                self.assertEqual(getattr(getattr(module_of(module), kind), name), value)

    def test_right_calls(self):
        for name, call, parts, named in all_calls():
            before = copy.deepcopy([part for part in parts if isinstance(part, (tuple, dict))])
            rows = [part.rows for part in parts if isinstance(part, Table)]
            told = result_of(name, call, parts, named)
            # Equal calls return equal results, and change nothing.
            again = result_of(name, call, parts, named)
            self.assertTrue(told == again, name)
            self.assertEqual(before, [part for part in parts if isinstance(part, (tuple, dict))], name)
            self.assertEqual(rows, [part.rows for part in parts if isinstance(part, Table)], name)
            if name.startswith(("is_", "are_", "keeps_")) or name in ("refines", "precedes", "begins_with", "commute"):
                self.assertIn(told, (True, False))
                self.assertIsInstance(told, bool)
            if not hasattr(call(*parts, **named), "__next__"):
                self.assertNotIsInstance(told, (list, set))

    def test_keys_of_dicts_are_ascending(self):
        desk = Desk.of(2, {"z": F, "b": G, "a": FLIP})
        for name in ("y", "c", "x"):
            desk.watch(name, ("order", "z"))
        for value in (desk.definitions, desk.answers, desk.tried(("drop", "b")), loop_lengths(counter(2, 1) ** 2)):
            self.assertEqual(list(value), sorted(value))


class WrongArgumentsTest(unittest.TestCase):

    def test_one_wrong_argument_after_another(self):
        for name, call, parts, named in all_calls():
            for at in range(len(parts)):
                for value in STRANGE:
                    self.check_call(name, call, parts[:at] + [value] + parts[at + 1:], named)
            for key in named:
                for value in STRANGE:
                    self.check_call(name, call, parts, {**named, key: value})

    def test_several_wrong_arguments(self):
        chance = random.Random(1)
        for name, call, parts, named in all_calls():
            for _ in range(60):
                wrong = [chance.choice(STRANGE) if chance.randrange(2) else part for part in parts]
                self.check_call(name, call, wrong, {key: chance.choice(STRANGE) for key in named})

    def check_call(self, name, call, parts, named):
        """Check that a call returns something, or raises an error of the package."""
        rows = [part.rows for part in parts if isinstance(part, Table)]
        try:
            told = result_of(name, call, parts, named)
        except ERRORS as error:
            self.assertLessEqual(len(vars(error)), 1)
        else:
            if name.startswith("is_"):
                self.assertIsInstance(told, bool)
        self.assertEqual(rows, [part.rows for part in parts if isinstance(part, Table)])

    def test_desks(self):
        for name, parts in (("apply", (("give", "f", F.rows),)), ("apply_all", ((("drop", "f"),),)), ("watch", ("a", ("order", "f"))),
                            ("tried", (("define", "g", "f"),)), ("unwatch", ("w",)), ("evaluated", ("f ** 2",)),
                            ("set_row_limit", (20,)), ("undo", ({"count": 1},)), ("redo", ({"count": 1},)),
                            ("__getitem__", ("f",)), ("__contains__", ("f",)), ("__eq__", (None,))):
            for at in range(len(parts)):
                for value in STRANGE:
                    desk = Desk.of(2, {"f": F})
                    desk.watch("w", ("order", "f"))
                    if isinstance(parts[at], dict):
                        self.check_call(name, getattr(desk, name), [], {"count": value})
                    else:
                        self.check_call(name, getattr(desk, name), list(parts[:at]) + [value] + list(parts[at + 1:]), {})
        for kind in Codec.KINDS + ("", None):
            for value in STRANGE:
                self.check_call("text", Codec(2).text, [kind, value], {})
                self.check_call("parse", Codec(2).parse, [kind, value], {})

    def test_classes_of_errors(self):
        family = [errors.InvalidPrefix, errors.InvalidStream, errors.InvalidCode, errors.InvalidTable, errors.InvalidRegion,
                  errors.InvalidGraph, errors.InvalidMove, errors.InvalidOperation, errors.InvalidEdit, errors.ParseError]
        others = {errors.InvalidNumber: IndexError, errors.UnknownName: KeyError, errors.NotTaken: LookupError,
                  errors.TooMany: OverflowError, errors.NothingToUndo: RuntimeError}
        self.assertEqual(sorted(map(str, ERRORS)), sorted(map(str, family + list(others) + [errors.PrefixError])))
        for error in family:
            self.assertEqual(error.__bases__, (errors.PrefixError,))
        for error, base in others.items():
            self.assertEqual(error.__bases__, (base,))
            self.assertEqual(list(vars(error((1, "x"))).values()), [(1, "x")])


class AgreementTest(Case):

    def made_at_a_desk(self, chance, table, other):
        """Return a table that was given, edited, undone and made again at a desk, and is the same in the end."""
        desk = Desk(table.base, roots=table.left_roots)
        desk.apply(("give", "f", table.rows), ("give", "g", other.rows))
        desk.watch("w", ("order", "f"))
        for _ in range(6):
            change = chance_change(chance, table.base, table.left_roots, 2, table.left_roots)
            try:
                chance.choice([lambda: desk.apply(("recode", change.rows)), lambda: desk.apply(("define", "k", "f * ~g")),
                               lambda: desk.apply(("define", "f", "g"), ("define", "f", "k")),
                               lambda: desk.undo(count=min(1, len(desk.log()) - 1)), desk.redo, lambda: desk.apply(("rename", "f", "h"))])()
            except ERRORS:
                pass
        desk.undo(count=len(desk.log()) - 1)
        self.assertEqual(desk.answers, {"w": order(table)})
        desk.apply(("define", "x", "f * g * ~g"), ("define", "y", "~~f ** 1"))
        self.assertEqual([desk["x"], desk["y"], desk.evaluated("f ** 2 * ~f")], [table, table, table])
        return desk["x"]

    def test_equal_tables_that_were_made_in_different_ways(self):
        chance = random.Random(5)
        for table in small_tables(81, 50):
            base, roots = table.base, table.left_roots
            other = chance_change(chance, base, roots, 4, roots)
            codec = Codec(base)
            wide = tuple((left[0], left[1] + digit) for left, _ in table.rows for digit in "01234"[:base])
            rows = [(prefix, table[prefix]) for prefix in wide]
            chance.shuffle(rows)
            same = [table * other * ~other, ~~table, codec.parse("table", str(table)), recoded(recoded(table, other), ~other),
                    Table(base, *rows), table ** 3 * table ** -2, self.made_at_a_desk(chance, table, other)]
            stream = chance_streams(chance, base, roots, 1)[0]
            calls = [order, growing_circles, shrinking_circles, loop_lengths, order_certificate, fixed_prefixes,
                     lone_fixed_streams, reduced_form, str, lambda one: orbit_certificate(one, stream),
                     lambda one: limit_cycle(one, stream), lambda one: likeness_certificate(one, table),
                     lambda one: exponent_between(one, table), lambda one: recoding(one, one)]
            told = [call(table) for call in calls]
            for one in same:
                self.assertEqual(one, table)
                self.assertIsNone(difference(one, table))
                self.assertEqual([call(one) for call in calls], told)
                self.assertIs(is_order_certificate(one, order_certificate(table)), True)
                self.assertIs(is_reduced_form(one, reduced_form(table)), True)

    def check_order(self, table):
        """Check that everything that tells of the order of a table agrees."""
        told = order(table)
        kind, thing = order_certificate(table)
        self.assertEqual(kind, "grows" if told is None else "permuted")
        streams = all_streams(table.base, range(table.left_roots), 2, 2)[::7] + [
            stream for stream in lone_fixed_streams(table)]
        times = [return_time(table, stream) for stream in streams]
        if told is not None:
            self.assertEqual([growing_circles(table), shrinking_circles(table)], [(), ()])
            self.assertEqual(math.lcm(*loop_lengths(table)), told)
            self.assertTrue(all(time is not None and told % time == 0 for time in times))
            self.assertFalse(bool(table ** told) if told <= 64 else False)
        else:
            self.assertTrue(growing_circles(table) and shrinking_circles(table))
            prefix, power, word = thing
            self.assertIn(power, [length for length, _ in growing_circles(table)])
        for stream, time in zip(streams, times):
            certificate = orbit_certificate(table, stream)
            self.assertEqual(certificate[0] == "returns", time is not None)
            self.assertIs(is_orbit_certificate(table, stream, certificate), True)
            fixed = stream in lone_fixed_streams(table) or any(begins_with(table.base, stream, prefix)
                                                              for prefix in fixed_prefixes(table))
            self.assertEqual(table(stream) == stream, fixed)
            self.assertEqual(time == 1, fixed)
            self.assertEqual(exponent(table, stream, table(stream)), 0 if fixed else 1)
            if time is not None:
                self.assertEqual(len(limit_cycle(table, stream)), time)
            else:
                self.assertIn(len(limit_cycle(table, stream)), [length for length, _ in growing_circles(table)])

    def check_returns(self, table):
        """Check that the first returns to a region agree with the steps of streams."""
        region = Region(table.base, table.left_roots, (0, "0"))
        returns = first_returns(table, region, most=6)
        away = never_back(table, region, most=6)
        for stream in all_streams(table.base, range(table.left_roots), 3, 1):
            if stream in region:
                way = [stream]
                while len(way) < 8:
                    way.append(table(way[-1]))
                times = [at for at in range(1, 7) if way[at] in region]
                found = [(start, time, end) for start, time, end in returns if begins_with(table.base, stream, start)]
                self.assertEqual([time for _, time, _ in found], times[:1])
                self.assertEqual(stream in away, not times)
        if is_kept(table, region):
            self.assertEqual({time for _, time, _ in returns}, {1})

    def test_answers_agree(self):
        chance = random.Random(6)
        for table in small_tables(82, 60):
            base, roots = table.base, table.left_roots
            change = chance_change(chance, base, roots, 3)
            other = recoded(table, change)
            for one in (table, ~table, other):
                if len(one) <= 9:
                    self.check_order(one)
                    self.check_returns(one)
            self.assertIs(is_recoding(table, other, change), True)
            if len(other) <= 60:
                self.assertIs(are_alike(table, other), True)
                self.assertIs(is_likeness_certificate(table, other, likeness_certificate(table, other)), True)
                self.assertEqual(order(other), order(table))

    def test_exactly_one_of_two_things(self):
        tables = small_tables(83, 40)
        for first in tables:
            for second in [table for table in tables[::6] if table.base == first.base]:
                certificate = likeness_certificate(first, second)
                self.assertEqual(recoding(first, second) is None, certificate[0] == "unlike")
                if (first.left_roots, order(first)) == (second.left_roots, None):
                    n = exponent_between(first, second)
                    self.assertTrue(n is None or first.power(n) == second and commute(first, second))

    def test_relations_and_exponents(self):
        for table in small_tables(84, 40):
            told = order(table)
            found = [len(text.split()) for length in range(1, 13) for text in relations({"t": table}, length)]
            self.assertEqual(sorted(set(found)), [n for n in range(1, 13) if told is not None and n % told == 0])
            for n in (2, 3):
                text = shortest_text(table ** n, {"t": table}, 3)
                least = min((abs(m), m < 0) for m in range(-3, 4) if table ** m == table ** n)
                self.assertEqual(text, " ".join([("~t" if least[1] else "t")] * least[0]))


if __name__ == "__main__":
    unittest.main()
