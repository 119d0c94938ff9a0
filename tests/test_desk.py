"""[13.3], [13.4] and the class Desk: its tables, edits and groups."""

import unittest

from prefixtable.desk.desk import Desk
from prefixtable.errors import (
    InvalidEdit, InvalidNumber, InvalidTable, NothingToUndo, ParseError, TooMany, UnknownName)
from prefixtable.tables.building import beside, beside_all, in_order
from prefixtable.tables.table import Table
from small import NOT_SQUARE, TEN, TWO_ROOTS, counter
from support import KEEPS_NOTHING, OTHER_VALUES, Case
from tables import FLIP, LAST, NO_TABLES, SPLIT, F, G
from test_codes import comb_code
from test_formulas import NO_NAMES
from test_regions import SIXTY_ONE
from test_words import NO_BASES, NO_ROOTS

GIVE_F, GIVE_G, GIVE_H = ("give", "f", F.rows), ("give", "g", G.rows), ("give", "h", FLIP.rows)
WIDE = tuple(((0, word), (0, word)) for _, word in comb_code(2, 5001))
NO_ROWS = OTHER_VALUES + [
    F, list(F.rows), (F.rows,), F.rows[1:], F.rows + F.rows[:1], SPLIT.rows, (~SPLIT).rows, TWO_ROOTS.rows,
    Table(3, ((0, "0"), (0, "1")), ((0, "1"), (0, "0")), ((0, "2"), (0, "2"))).rows, WIDE,
    tuple([list(row) for row in F.rows])]
NO_EDITS = [value for value in OTHER_VALUES] + [
    F, "give", ("give",), ("give", "f"), ("give", "f", F.rows, 1), ("define", "f"), ("define", "f", "g", "h"), ("drop",),
    ("drop", "f", "g"), ("rename", "f"), ("rename", "f", "x", "y"), ("recode",), ("recode", F.rows, F.rows), ["drop", "f"],
    ("Give", "f", F.rows), ("recode", "f", F.rows), (("drop", "f"),), (None, "f"), (1, "f", F.rows), ("undo",),
    ("", "f"), (F, "f"), ({}, "f"), ([], "f", F.rows)]


def some_desk():
    """Return a desk with tables, formulas and a question."""
    desk = Desk(2)
    desk.apply(GIVE_F, GIVE_G)
    desk.apply(("define", "x", "~f * g"), ("define", "y", "x ** 2 * h"), GIVE_H)
    desk.watch("w", ("order", "x"))
    return desk


def state_of(desk):
    """Return all that a desk tells of itself."""
    return (desk.names, desk.definitions, desk.answers, desk.row_limit, desk.log(), list(desk.news()), str(desk),
            [desk[name].rows for name in desk.names], len(desk))


class DeskCase(Case):

    def check_refused(self, error, value, desk, call, *parts, **named):
        """Check that a call raises an error, and changes nothing."""
        before = state_of(desk)
        self.check_error(error, value, call, *parts, **named)
        self.assertEqual(state_of(desk), before)

    def check_group_refused(self, error, value, desk, *edits):
        """Check that a group raises an error in all ways in which it is made, and changes nothing."""
        for call in (desk.apply, desk.tried):
            self.check_refused(error, value, desk, call, *edits)
        self.check_refused(error, value, desk, desk.apply_all, edits)


class ExamplesTest(Case):

    def test_printed_examples(self):
        desk = Desk(2)
        self.assertEqual([desk.apply(("give", "f", G.rows), ("define", "g", "~f * f ** 2")), desk["g"] == desk["f"],
                          desk.names], [1, True, ("f", "g")])
        self.assertEqual([desk.watch("w", ("order", "g")), desk.answers, desk.tried(("define", "g", "f ** 0")),
                          len(desk)], [None, {"w": None}, {"w": 1}, 2])
        self.assertEqual([desk.during(lambda one: one.apply(("drop", "g"))), desk.names], [2, ("f", "g")])


class MakingTest(DeskCase):

    def test_new_desks(self):
        desk = Desk(3, roots=2)
        self.assertEqual(state_of(desk), ((), {}, {}, 60, (), [], "desk of base 3: 0 names, 0 groups", [], 0))
        self.assertEqual([Desk(2, row_limit=limit).row_limit for limit in (1, 7, 60)], [1, 7, 60])
        self.assertEqual(Desk.LARGEST, 60)
        self.assertEqual(desk.LARGEST, 60)
        self.assertEqual(str(some_desk()), "desk of base 2: 5 names, 2 groups")

    def test_errors_of_new_desks(self):
        for base in NO_BASES:
            self.check_error(InvalidNumber, base, Desk, base, roots=None, row_limit=None)
            self.check_error(InvalidNumber, base, Desk.of, base, None, roots=None)
        for roots in NO_ROOTS:
            self.check_error(InvalidNumber, roots, Desk, 2, roots=roots, row_limit=None)
            self.check_error(InvalidNumber, roots, Desk.of, 2, None, roots=roots)
        for limit in (0, 61, -1, True, None, "6", 10 ** 59, (6,)):
            self.check_error(InvalidNumber, limit, Desk, 2, row_limit=limit)

    def test_desks_of_tables(self):
        desk = Desk.of(2, {"g": G, "f": F, "abcdefgh": FLIP})
        self.assertEqual(desk.log(), ((GIVE_G, GIVE_F, ("give", "abcdefgh", FLIP.rows)),))
        self.assertEqual([desk["f"], desk["g"], desk.names], [F, G, ("abcdefgh", "f", "g")])
        self.assertEqual(str(Desk.of(2, {"a": TWO_ROOTS}, roots=2)), "desk of base 2: 1 names, 1 groups")
        self.assertEqual(str(Desk.of(2, {})), "desk of base 2: 0 names, 0 groups")
        for value in OTHER_VALUES + NO_TABLES + [{"a": F.rows}, {"a": None}, {"A": None}, {"a": F, "b": str(G)}]:
            if value != {} and value != {0: F}:
                self.check_error(InvalidTable, KEEPS_NOTHING, Desk.of, 2, value)
        for tables, error, told in (({"A": F}, InvalidEdit, KEEPS_NOTHING), ({"id": F}, InvalidEdit, KEEPS_NOTHING),
                                    ({0: F}, InvalidEdit, KEEPS_NOTHING), ({None: F}, InvalidEdit, KEEPS_NOTHING),
                                    ({"a": SPLIT}, InvalidTable, KEEPS_NOTHING), ({"a": SIXTY_ONE}, TooMany, 60),
                                    ({"a": TWO_ROOTS}, InvalidTable, KEEPS_NOTHING),
                                    ({"a": SIXTY_ONE, "b": SPLIT}, TooMany, 60),
                                    ({"b": SPLIT, "a": SIXTY_ONE}, InvalidTable, KEEPS_NOTHING)):
            self.check_error(error, told, Desk.of, 2, tables)

    def test_reading(self):
        desk = some_desk()
        self.assertEqual(desk.definitions, {"f": F.rows, "g": G.rows, "h": FLIP.rows, "x": "~f * g", "y": "x ** 2 * h"})
        self.assertEqual(list(desk.definitions), ["f", "g", "h", "x", "y"])
        self.assertEqual([desk[name] for name in desk.names],
                         [F, G, FLIP, ~F * G, (~F * G) * (~F * G) * FLIP])
        for name in desk.names:
            self.assertIs(name in desk, True)
        for value in NO_NAMES + ["a", "ff", ("f",), ["f"]]:
            self.assertIs(value in desk, False)
            self.check_refused(UnknownName, value, desk, lambda: desk[value])
        self.assertEqual(desk.evaluated("f * y ** -1"), F * ~desk["y"])
        self.assertEqual(Desk(3, roots=2).evaluated("id"), Table.identity(3, roots=2))

    def test_evaluated_errors(self):
        desk = some_desk()
        for text in [value for value in OTHER_VALUES if value != "a"] + ["f *", "F", "(f)", F, ("name", "f")]:
            self.check_refused(ParseError, KEEPS_NOTHING, desk, desk.evaluated, text)
        self.check_refused(UnknownName, "a", desk, desk.evaluated, "z * (a * f ** 60) ** 60")
        self.check_refused(TooMany, 5000, desk, desk.evaluated, "((g ** 60) ** 60) ** 60")
        self.assertEqual(len(desk.evaluated("g ** 60")), 62)
        desk.row_limit = 30
        self.assertEqual(len(desk.evaluated("g ** 60")), 62)


class EditsTest(DeskCase):

    def test_give(self):
        desk = Desk(2)
        more = (((0, "11"), (0, "11")), ((0, "0"), (0, "0")), ((0, "10"), (0, "10")))
        self.assertEqual(desk.apply(("give", "a", more)), 1)
        self.assertEqual(desk.definitions, {"a": (((0, ""), (0, "")),)})
        self.assertEqual(desk.log(), ((("give", "a", more),),))
        self.assertEqual(desk.apply(("give", "a", F.rows), ("give", "b", G.rows[::-1])), 2)
        self.assertEqual(desk.definitions, {"a": F.rows, "b": G.rows})
        desk.apply(("define", "a", "b"), ("give", "b", FLIP.rows))
        self.assertEqual([desk["a"], desk.definitions["a"]], [FLIP, "b"])
        desk.apply(("give", "a", G.rows))
        self.assertEqual([desk["a"], desk.definitions], [G, {"a": G.rows, "b": FLIP.rows}])

    def test_define(self):
        desk = Desk(2)
        # Names may come later in the same group.
        self.assertEqual(desk.apply(("define", "c", "a * b"), ("define", "b", "~a"), GIVE_F, ("define", "a", "f")), 1)
        self.assertEqual(desk["c"], Table.identity(2))
        desk.apply(("define", "b", "a ** 2"), ("define", "d", "id"))
        self.assertEqual([desk["c"], desk["d"]], [F ** 3, Table.identity(2)])
        desk.apply(("define", "f", "d"))
        self.assertEqual(desk.definitions, {"a": "f", "b": "a ** 2", "c": "a * b", "d": "id", "f": "d"})
        self.assertEqual([bool(desk[name]) for name in desk.names], [False] * 5)

    def test_drop(self):
        desk = some_desk()
        self.assertEqual(desk.apply(("drop", "y"), ("drop", "h")), 3)
        self.assertEqual(desk.names, ("f", "g", "x"))
        self.check_group_refused(UnknownName, "f", desk, ("drop", "f"))
        desk.apply(("drop", "f"), ("give", "f", FLIP.rows))
        self.assertEqual(desk["x"], FLIP * G)
        desk.apply(("drop", "f"), ("define", "x", "g"))
        self.assertEqual(desk.names, ("g", "x"))

    def test_rename(self):
        desk = some_desk()
        desk.apply(("rename", "x", "id" * 2), ("rename", "g", "long"), ("rename", "h", "b"))
        self.assertEqual(desk.definitions, {"b": FLIP.rows, "f": F.rows, "idid": "~f * long", "long": G.rows,
                                            "y": "idid ** 2 * b"})
        self.assertEqual(desk["y"], some_desk()["y"])
        # Questions keep their names.
        self.assertEqual(desk.answers, {"w": "undefined"})
        # A name that is free again can be used again, and formulas that wait for the new name mean it.
        desk.apply(("rename", "f", "z"), ("define", "f", "q"), ("rename", "z", "q"))
        self.assertEqual([desk.definitions["f"], desk.definitions["q"], desk["f"]], ["q", F.rows, F])
        desk.apply(("define", "u", "~(v * v) ** 2 * ~~v * (v ** 2) ** 2"), ("rename", "q", "v"))
        self.assertEqual(desk.definitions["u"], "~(v * v) ** 2 * ~~v * (v ** 2) ** 2")
        desk.apply(("rename", "v", "abcdefgh"))
        self.assertEqual(desk.definitions["u"], "~(abcdefgh * abcdefgh) ** 2 * ~~abcdefgh * (abcdefgh ** 2) ** 2")
        self.check_group_refused(InvalidEdit, KEEPS_NOTHING, desk, ("define", "m", "n"), ("rename", "m", "n"))

    def test_recode(self):
        desk = some_desk()
        desk.apply(("recode", LAST.rows))
        self.assertEqual(desk.definitions, {"f": (LAST * F * ~LAST).rows, "g": (LAST * G * ~LAST).rows,
                                            "h": (LAST * FLIP * ~LAST).rows, "x": "~f * g", "y": "x ** 2 * h"})
        self.assertEqual(desk["y"], LAST * some_desk()["y"] * ~LAST)
        # What comes later in the group is not recoded; the rows need not be least or in order.
        desk = Desk.of(2, {"g": G})
        desk.apply(("recode", (((0, "1"), (0, "0")), ((0, "01"), (0, "11")), ((0, "00"), (0, "10")))), ("give", "n", G.rows))
        self.assertEqual([desk["g"], desk["n"]], [FLIP * G * FLIP, G])
        desk = Desk.of(2, {"a": TWO_ROOTS}, roots=2)
        desk.apply(("recode", (((0, ""), (1, "")), ((1, ""), (0, "")))))
        self.assertEqual(desk["a"].rows[0], ((0, "0"), (0, "1")))

    def test_edits_that_are_none(self):
        for edit in NO_EDITS:
            for desk in (Desk(2), some_desk()):
                self.check_group_refused(InvalidEdit, KEEPS_NOTHING, desk, edit)
                self.check_group_refused(InvalidEdit, KEEPS_NOTHING, desk, GIVE_F, edit)
                self.check_group_refused(InvalidEdit, KEEPS_NOTHING, desk, edit, ("drop", "nothing"))

    def test_errors_of_names(self):
        desk = some_desk()
        for name in NO_NAMES:
            for edit in (("give", name, None), ("define", name, None), ("rename", None, name), ("rename", "f", name)):
                self.check_group_refused(InvalidEdit, KEEPS_NOTHING, desk, edit)
        for old in ("f", "nothing", None, 1, [], "x"):
            for new in ("f", "g", "x"):
                self.check_group_refused(InvalidEdit, KEEPS_NOTHING, desk, ("rename", old, new))
        for name in NO_NAMES + ["a", "nothing"]:
            self.check_group_refused(UnknownName, name, desk, ("drop", name))
            self.check_group_refused(UnknownName, name, desk, ("rename", name, "new"))
        self.check_group_refused(UnknownName, "f", desk, ("rename", "f", "new"), ("drop", "f"))
        self.check_group_refused(UnknownName, "h", desk, ("drop", "h"), ("rename", "h", "i"))

    def test_errors_of_rows_and_texts(self):
        desk = some_desk()
        for rows in NO_ROWS:
            self.check_group_refused(InvalidTable, KEEPS_NOTHING, desk, ("give", "f", rows))
            self.check_group_refused(InvalidTable, KEEPS_NOTHING, desk, ("recode", rows), ("drop", "nothing"))
            self.check_group_refused(InvalidTable, KEEPS_NOTHING, Desk(2), ("recode", rows))
        for table in NOT_SQUARE:
            self.check_group_refused(InvalidTable, KEEPS_NOTHING, desk, ("give", "f", table.rows))
        for text in [value for value in OTHER_VALUES if value != "a"] + ["f *", "(f)", "f ** 61", F, ("id",)]:
            self.check_group_refused(ParseError, KEEPS_NOTHING, desk, ("define", "new", text), None)
        # As many as 5000 rows may be given, if the least ones are few.
        self.assertEqual(desk.tried(("give", "f", tuple((prefix, prefix) for prefix in comb_code(2, 5000)))), {"w": None})

    def test_row_limit_of_edits(self):
        desk = some_desk()
        self.check_group_refused(TooMany, 60, desk, ("give", "n", SIXTY_ONE.rows), None)
        self.check_group_refused(TooMany, 60, desk, ("recode", SIXTY_ONE.rows), None)
        self.assertEqual(desk.during(lambda one: one.apply(("give", "n", counter(2, 59).rows))), 3)
        desk.row_limit = 8
        self.check_group_refused(TooMany, 8, desk, ("give", "n", TEN.rows), None)
        self.check_group_refused(TooMany, 8, desk, ("recode", TEN.rows), None)
        # The change has few rows, but what is recoded has more.
        self.check_group_refused(TooMany, 8, desk, ("recode", counter(2, 7).rows), None)
        self.assertEqual(len(counter(2, 7)), 8)
        self.check_group_refused(TooMany, 8, desk, ("define", "n", "g ** 9"), ("drop", "h"), ("define", "y", "id"))
        self.assertEqual(desk.tried(("define", "n", "g ** 6")), {"w": None})

    def test_errors_behind_all_edits(self):
        desk = some_desk()
        for edits, name in (((("define", "a", "z * c"), ("define", "b", "d")), "c"), ((("drop", "f"), ("drop", "h")), "f"),
                            ((("define", "a", "a * z"),), "z"), ((("rename", "g", "new"), ("define", "e", "g")), "g"),
                            ((("define", "a", "((g ** 60) ** 60) ** 60"), ("define", "b", "z")), "z"),
                            ((("define", "a", "(g ** 60) ** 2"), ("define", "b", "b"), ("define", "c", "z")), "z")):
            self.check_group_refused(UnknownName, name, desk, *edits)
        for edits in ((("define", "a", "a"),), (("define", "f", "x"),), (("define", "a", "b"), ("define", "b", "~a")),
                      (("define", "a", "b"), ("define", "b", "c ** 0"), ("define", "c", "a * f")),
                      (("define", "f", "y"),), (("define", "a", "(g ** 60) ** 60"), ("define", "b", "b"))):
            self.check_group_refused(InvalidEdit, KEEPS_NOTHING, desk, *edits)
        self.check_group_refused(TooMany, 5000, desk, ("define", "a", "((g ** 60) ** 60) ** 60"))
        self.check_group_refused(TooMany, 5000, desk, ("define", "b", "g ** 60"), ("define", "a", "((g ** 60) ** 60) ** 60"))
        self.check_group_refused(TooMany, 60, desk, ("define", "a", "g ** 60"))
        self.check_group_refused(TooMany, 60, desk, ("define", "a", "b ** 2"), ("define", "b", "g ** 40"))
        # Tables on the way may have more rows than allowed, tables with a name not.
        self.assertEqual(desk.tried(("define", "a", "g ** 60 * g ** -60")), {"w": None})
        self.check_group_refused(TooMany, 60, desk, ("define", "b", "g ** 60"), ("define", "a", "b * ~b"))

    def test_errors_come_when_an_edit_is_reached(self):
        desk = some_desk()
        self.check_group_refused(UnknownName, "q", desk, ("define", "a", "z"), ("drop", "q"), None)
        self.check_group_refused(InvalidEdit, KEEPS_NOTHING, desk, ("define", "a", "a"), None, ("drop", "q"))
        self.check_group_refused(InvalidTable, KEEPS_NOTHING, desk, ("give", "a", ()), ("give", "b", SIXTY_ONE.rows))
        self.check_group_refused(TooMany, 60, desk, ("give", "b", SIXTY_ONE.rows), ("give", "a", ()))
        self.check_group_refused(ParseError, KEEPS_NOTHING, desk, ("define", "a", ""), ("drop", "q"))
        for value in [value for value in OTHER_VALUES if not isinstance(value, tuple)] + [[GIVE_F], F]:
            self.check_refused(InvalidEdit, KEEPS_NOTHING, desk, desk.apply_all, value)
        self.assertEqual([desk.apply(), desk.apply_all(()), len(desk.log())], [2, 2, 2])


class GroupsTest(DeskCase):

    def test_undo_and_redo(self):
        desk = Desk(2)
        states = [state_of(desk)]
        groups = [(GIVE_F,), (("define", "a", "f ** 2"), GIVE_G), (("rename", "f", "b"),), (("recode", LAST.rows),),
                  (("drop", "g"), ("define", "a", "~b"))]
        for group in groups:
            self.assertEqual(desk.apply_all(group), len(states))
            states.append(state_of(desk))
        self.assertEqual(desk.log(), tuple(groups))
        for steps in ((1, 1, 1, 1, 1), (5,), (2, 3), (3, 0, 1, 1), (4, 1)):
            at = 5
            for count in steps:
                at = at - count
                self.assertEqual(desk.undo(count=count), at)
                self.assertEqual(state_of(desk), states[at])
            self.check_refused(NothingToUndo, 1, desk, desk.undo)
            for count in steps:
                at = at + count
                self.assertEqual(desk.redo(count=count), at)
                self.assertEqual(state_of(desk), states[at])
            self.check_refused(NothingToUndo, 1, desk, desk.redo)
        self.assertEqual([desk.undo(), desk.undo(), desk.redo()], [4, 3, 4])

    def test_a_new_group_ends_what_can_be_made_again(self):
        desk = some_desk()
        desk.undo()
        self.check_refused(UnknownName, "z", desk, desk.apply, ("drop", "z"))
        self.assertEqual([desk.apply(), desk.undo(count=0), desk.redo(count=0)], [1, 1, 1])
        self.assertEqual([desk.redo(), desk.undo()], [2, 1])
        self.assertEqual(desk.apply(("drop", "g")), 2)
        self.check_refused(NothingToUndo, 1, desk, desk.redo)
        self.assertEqual(desk.names, ("f",))
        self.assertEqual(desk.undo(count=2), 0)
        self.check_refused(NothingToUndo, 3, desk, desk.redo, count=3)
        self.assertEqual([desk.redo(count=2), desk.log()], [2, ((GIVE_F, GIVE_G), (("drop", "g"),))])

    def test_errors_of_counts(self):
        desk = some_desk()
        for call in (desk.undo, desk.redo):
            for count in OTHER_VALUES + [-2, "1", (1,), F]:
                if isinstance(count, int) and not isinstance(count, bool) and count >= 0:
                    if count > 2:
                        self.check_refused(NothingToUndo, count, desk, call, count=count)
                else:
                    self.check_refused(InvalidNumber, count, desk, call, count=count)
        self.check_refused(NothingToUndo, 3, desk, desk.undo, count=3)
        self.check_refused(NothingToUndo, 1, desk, desk.redo, count=1)

    def test_equality(self):
        one, other = some_desk(), some_desk()
        self.assertEqual(one == other, True)
        other.unwatch("w")
        self.assertEqual(one == other, True)
        other.row_limit = 59
        self.assertEqual(one == other, False)
        other.row_limit = 60
        other.apply(("drop", "y"))
        self.assertEqual(one == other, False)
        other.undo()
        self.assertEqual(one == other, True)
        # Equal tables that were made by other groups.
        other = Desk(2)
        other.apply(*[edit for group in one.log() for edit in group])
        self.assertEqual([other.definitions == one.definitions, one == other], [True, False])
        self.assertEqual([Desk(2) == Desk(3), Desk(2) == Desk(2, roots=2), Desk(2) == Desk(2), Desk(2, row_limit=9) == Desk(2)],
                         [False, False, True, False])
        for value in OTHER_VALUES + [F, str(one), one.log(), one.definitions]:
            self.assertIs(one == value, False)

    def test_nothing_gives_access_to_the_state(self):
        desk = some_desk()
        before = state_of(desk)
        for value in (desk.definitions, desk.answers):
            value["f"] = None
            value.pop("w", None)
            value.clear()
        rows = list(GIVE_F[2])
        tables = {"f": F}
        other = Desk.of(2, tables)
        tables["f"] = tables["g"] = G
        rows.clear()
        self.assertEqual(state_of(desk), before)
        self.assertEqual([other["f"], other.names], [F, ("f",)])
        for value in (desk.log(), desk.names, desk.log()[0], desk.log()[0][0]):
            self.assertIsInstance(value, tuple)
        self.assertRaises(AttributeError, setattr, desk, "names", ())
        self.assertRaises(TypeError, iter, desk)


class LimitTest(DeskCase):

    def test_assigning(self):
        desk = some_desk()
        most = max(len(desk[name]) for name in desk.names)
        self.assertIsNone(desk.set_row_limit(most))
        self.assertEqual(desk.row_limit, most)
        desk.row_limit = 60
        self.assertEqual(desk.row_limit, 60)
        for limit in range(1, 61):
            if limit < most:
                self.check_refused(TooMany, limit, desk, desk.set_row_limit, limit)
                self.check_refused(TooMany, limit, desk, setattr, desk, "row_limit", limit)
            else:
                self.assertIsNone(desk.set_row_limit(limit))
        for limit in OTHER_VALUES + [61, 0, "5", (5,)]:
            if isinstance(limit, bool) or not isinstance(limit, int) or not 1 <= limit <= 60:
                self.check_refused(InvalidNumber, limit, desk, desk.set_row_limit, limit)
                self.check_refused(InvalidNumber, limit, desk, setattr, desk, "row_limit", limit)
        Desk(2).row_limit = 1

    def test_undo_and_redo_with_a_lower_limit(self):
        desk = Desk.of(2, {"f": counter(2, 20)})
        desk.apply(("define", "g", "f ** 2"))
        desk.apply(("give", "f", F.rows))
        desk.row_limit = 9
        self.check_refused(TooMany, 9, desk, desk.undo)
        self.check_refused(TooMany, 9, desk, desk.undo, count=2)
        self.check_refused(NothingToUndo, 4, desk, desk.undo, count=4)
        # Only the tables at the end matter, not those of the groups on the way.
        self.assertEqual(desk.undo(count=3), 0)
        self.check_refused(TooMany, 9, desk, desk.redo)
        self.check_refused(TooMany, 9, desk, desk.redo, count=2)
        self.assertEqual([desk.redo(count=3), desk.row_limit], [3, 9])
        desk.row_limit = 60
        self.assertEqual([desk.undo(), len(desk["f"]), desk.row_limit], [2, 21, 60])
        desk = Desk.of(2, {"f": G})
        desk.apply(("define", "g", "f ** 7"), ("drop", "g"))
        desk.apply(("define", "g", "f ** 7"))
        desk.undo()
        desk.row_limit = 8
        self.check_refused(TooMany, 8, desk, desk.redo)
        self.check_refused(TooMany, 8, desk, desk.apply, ("define", "g", "f ** 7"))


class TrialTest(DeskCase):

    def change(self, desk):
        """Change all that a desk has, one after another."""
        desk.row_limit = 50
        desk.apply(("drop", "y"), ("rename", "f", "k"))
        desk.watch("v", ("equal", "k", "g"))
        desk.unwatch("w")
        desk.undo(count=2)
        desk.redo()
        desk.apply(("give", "n", LAST.rows))
        desk.watch("w", ("order", "n"))
        return desk.names

    def test_during_and_trial(self):
        desk = some_desk()
        desk.apply(("define", "x", "id"))
        desk.undo()
        before = state_of(desk)
        self.assertEqual(desk.during(self.change), ("f", "g", "h", "n", "x", "y"))
        self.assertEqual(state_of(desk), before)
        with desk.trial():
            self.assertEqual(self.change(desk), ("f", "g", "h", "n", "x", "y"))
            self.assertNotEqual(state_of(desk), before)
        self.assertEqual(state_of(desk), before)
        # What was undone can still be made again.
        self.assertEqual([desk.redo(), desk.definitions["x"]], [3, "id"])

    def test_errors_inside(self):
        desk = some_desk()
        before = state_of(desk)

        def fail(one):
            self.change(one)
            raise LookupError("told")

        with self.assertRaises(LookupError) as held:
            desk.during(fail)
        self.assertEqual(str(held.exception), "told")
        self.assertEqual(state_of(desk), before)
        with self.assertRaises(UnknownName):
            with desk.trial():
                self.change(desk)
                desk.apply(("drop", "nothing"))
        self.assertEqual(state_of(desk), before)
        with self.assertRaises(ZeroDivisionError):
            with desk.trial():
                desk.apply(("define", "m", "x"))
                self.assertEqual([desk.during(len), desk.during(self.change), len(desk)],
                                 [6, ("f", "g", "h", "m", "n", "x", "y"), 6])
                raise ZeroDivisionError
        self.assertEqual(state_of(desk), before)

    def test_one_inside_of_another(self):
        desk = some_desk()
        before = state_of(desk)
        with desk.trial():
            desk.apply(("drop", "y"))
            middle = state_of(desk)
            with desk.trial():
                desk.apply(("drop", "h"))
                self.assertEqual(desk.during(lambda one: one.undo(count=4)), 0)
                self.assertEqual(desk.names, ("f", "g", "x"))
            self.assertEqual(state_of(desk), middle)
        self.assertEqual(state_of(desk), before)
        again = desk.trial()
        for _ in range(2):
            with again:
                desk.undo()
            self.assertEqual(state_of(desk), before)
        desk.apply(("drop", "y"))
        with again:
            desk.undo(count=3)
        self.assertEqual(state_of(desk), middle)

    def test_tried(self):
        desk = some_desk()
        desk.watch("v", ("equal", "f", "x"))
        desk.undo()
        before = state_of(desk)
        self.assertEqual(desk.tried(), desk.answers)
        self.assertEqual(desk.tried(("define", "x", "f")), {"v": True, "w": 5})
        self.assertEqual(desk.tried(("drop", "f")), {"v": "undefined", "w": "undefined"})
        self.assertEqual(list(desk.tried(("define", "x", "g"))), ["v", "w"])
        self.assertEqual(state_of(desk), before)
        self.assertEqual(desk.redo(), 2)

    def test_many_groups_and_roots(self):
        desk = Desk(2, roots=2)
        desk.apply(("give", "a", beside(F, G).rows))
        for at in range(100):
            desk.apply(("define", "b", f"a ** {at % 7}"))
        self.assertEqual([desk.undo(count=94), desk["b"]], [7, beside(F, G) ** 5])
        self.assertEqual(desk.redo(count=93), 100)
        large = Desk.of(5, {"a": beside_all((Table.identity(5),) * 60)}, roots=60)
        self.assertEqual(len(large["a"]), 60)
        self.check_group_refused(TooMany, 60, Desk(5, roots=61), ("define", "a", "id"))
        turn = in_order(2, ((0, "0"), (0, "1")), ((0, "0"), (0, "1")))
        self.assertEqual(Desk.of(2, {"a": turn})["a"], Table.identity(2))


if __name__ == "__main__":
    unittest.main()
