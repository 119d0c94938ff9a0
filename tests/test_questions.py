"""[13.4] and the questions of a desk: watch, unwatch, answers, news; desks beside a plain model of them."""

import random
import unittest

from prefixtable.desk.desk import Desk
from prefixtable.desk.formulas import names_in, parse_formula
from prefixtable.errors import (
    InvalidEdit, InvalidOperation, InvalidTable, NothingToUndo, ParseError, TooMany, UnknownName)
from prefixtable.graphs.circles import order
from prefixtable.graphs.matching import are_alike
from prefixtable.tables.table import Table
from changes import chance_change
from small import LONG, TWO_ROOTS, counter, small_tables
from support import KEEPS_NOTHING, OTHER_VALUES, Case, chance_rows, chance_streams, changed, plain_stream
from tables import FLIP, LAST, F, G
from test_desk import GIVE_F, GIVE_G, GIVE_H, DeskCase
from test_formulas import NO_NAMES, chance_formula, plain_name, plain_text, plain_value

STREAM = (0, "0", "01")
QUESTIONS = [("order", "f"), ("equal", "f", "g"), ("alike", "f", "g"), ("commute", "f", "g"), ("image", "f", STREAM)]


def plain_question(value):
    """Tell by the definition whether a value is a question about tables of base 2 with one root."""
    if not isinstance(value, tuple) or not value or not isinstance(value[0], str):
        return False
    if value[0] == "order":
        return len(value) == 2 and plain_name(value[1])
    if value[0] == "image":
        return len(value) == 3 and plain_name(value[1]) and plain_stream(2, 1, value[2])
    return value[0] in ("equal", "alike", "commute") and len(value) == 3 and all(map(plain_name, value[1:]))


def plain_answer(question, tables):
    """Return the answer to a question by the definition."""
    kind, parts = question[0], question[1:]
    names = parts[:1] if kind in ("order", "image") else parts
    if any(name not in tables for name in names):
        return "undefined"
    if kind == "order":
        return order(tables[parts[0]])
    if kind == "image":
        return tables[parts[0]](parts[1])
    one, other = tables[parts[0]], tables[parts[1]]
    if kind == "equal":
        return one == other
    return are_alike(one, other) if kind == "alike" else one * other == other * one


class WatchTest(DeskCase):

    def test_all_questions(self):
        desk = Desk.of(2, {"f": F, "g": G})
        for question in QUESTIONS:
            self.assertIsNone(desk.watch(question[0], question))
        self.assertEqual(desk.answers, {"alike": False, "commute": False, "equal": False, "image": F(STREAM), "order": 5})
        self.assertEqual(list(desk.answers), ["alike", "commute", "equal", "image", "order"])
        self.assertEqual(list(desk.news()), [])
        desk.apply(("define", "g", "~f"))
        self.assertEqual(desk.answers, {"alike": True, "commute": True, "equal": False, "image": F(STREAM), "order": 5})
        self.assertEqual(list(desk.news()), [("alike", False, True), ("commute", False, True)])
        desk.apply(("give", "f", G.rows))
        self.assertEqual(desk.answers, {"alike": False, "commute": True, "equal": False, "image": G(STREAM), "order": None})
        desk.apply(("rename", "g", "k"))
        self.assertEqual(desk.answers, {"alike": "undefined", "commute": "undefined", "equal": "undefined",
                                        "image": G(STREAM), "order": None})
        desk.apply(("define", "g", "f"))
        self.assertEqual([desk.answers["equal"], desk.answers["alike"]], [True, True])
        # Watch names and names of tables have nothing to do with one another.
        desk.watch("f", ("order", "g"))
        self.assertEqual(desk.answers["f"], None)
        self.assertEqual(desk.names, ("f", "g", "k"))
        large = Desk.of(2, {"a": counter(2, 59)})
        large.watch("o", ("order", "a"))
        self.assertEqual(large.answers, {"o": 2 ** 59})

    def test_replacing_and_removing(self):
        desk = Desk.of(2, {"f": F, "g": G})
        desk.watch("a", ("order", "f"))
        desk.watch("a", ("order", "g"))
        desk.watch("b", ("equal", "f", "f"))
        self.assertEqual(desk.answers, {"a": None, "b": True})
        self.assertIsNone(desk.unwatch("a"))
        self.assertEqual(desk.answers, {"b": True})
        self.check_refused(UnknownName, "a", desk, desk.unwatch, "a")
        self.check_refused(UnknownName, "f", desk, desk.unwatch, "f")
        for name in NO_NAMES:
            self.check_refused(InvalidOperation, KEEPS_NOTHING, desk, desk.unwatch, name)
            self.check_refused(InvalidOperation, KEEPS_NOTHING, desk, desk.watch, name, ("order", "f"))
            self.check_refused(InvalidOperation, KEEPS_NOTHING, desk, desk.watch, name, ("order", "nothing"))

    def test_questions_that_are_none(self):
        desk = Desk.of(2, {"f": F, "g": G})
        values = OTHER_VALUES + [F, ("order",), ("order", "f", "g"), ("equal", "f"), ("image", "f"), ("image", "f", "g"),
                                 ["order", "f"], ("Order", "f"), ("order", "id"), ("equal", "f", "id"), ("order", ["f"]),
                                 ("image", "f", (1, "", "0")), ("image", "f", (0, "", "2")), ("image", "f", (0, "", "")),
                                 ("image", "f", (0, "0", "10")), ("image", STREAM, "f"), ("equal", "f", "g", "f"),
                                 ("power", "f", "g"), ("order", None), ((), "f"), (F, "f"), ("equal", "f", F)]
        for value in values + [value for question in QUESTIONS for value in changed(question)]:
            if not plain_question(value):
                self.check_refused(InvalidOperation, KEEPS_NOTHING, desk, desk.watch, "w", value)
        for question, name in ((("order", "x"), "x"), (("equal", "x", "g"), "x"), (("equal", "g", "y"), "y"),
                               (("alike", "z", "y"), "z"), (("image", "h", STREAM), "h"), (("commute", "f", "ff"), "ff")):
            self.check_refused(UnknownName, name, desk, desk.watch, "w", question)
        desk = Desk.of(2, {"a": TWO_ROOTS}, roots=2)
        desk.watch("w", ("image", "a", (1, "", "0")))
        self.assertEqual(desk.answers, {"w": TWO_ROOTS((1, "", "0"))})

    def test_a_recoding_changes_images_only(self):
        chance = random.Random(1)
        for at, table in enumerate(small_tables(2, 40)):
            other = table ** (at % 3) * chance_change(chance, table.base, table.left_roots, 2, table.left_roots)
            if len(other) <= 30:
                desk = Desk.of(table.base, {"f": table, "g": other}, roots=table.left_roots)
                desk.apply(("define", "k", "f * g ** -1"))
                streams = chance_streams(chance, table.base, table.left_roots, 2)
                asked = [("order", "f"), ("order", "k"), ("equal", "f", "g"), ("alike", "f", "g"), ("alike", "k", "f"),
                         ("commute", "f", "k"), ("equal", "g", "k"), ("image", "k", streams[0]), ("image", "f", streams[1])]
                for place, question in enumerate(asked):
                    desk.watch("abcdefghij"[place], question)
                before = desk.answers
                change = chance_change(chance, table.base, table.left_roots, 3, table.left_roots)
                try:
                    desk.apply(("recode", change.rows))
                except TooMany:
                    continue
                after = desk.answers
                self.assertEqual([before[name] for name in "abcdefg"], [after[name] for name in "abcdefg"])
                self.assertEqual(after["h"], (change * table * ~other * ~change)(streams[0]))


class NewsTest(DeskCase):

    def test_news_of_the_last_group_alone(self):
        desk = Desk(2)
        desk.apply(GIVE_F, GIVE_G, GIVE_H)
        desk.watch("a", ("order", "f"))
        desk.watch("b", ("order", "g"))
        desk.watch("c", ("equal", "f", "h"))
        desk.apply(("give", "f", LAST.rows))
        self.assertEqual(list(desk.news()), [("a", 5, 2)])
        desk.apply(("define", "g", "h"), ("define", "f", "h"))
        self.assertEqual(list(desk.news()), [("b", None, 2), ("c", False, True)])
        desk.apply(("drop", "f"))
        self.assertEqual(list(desk.news()), [("a", 2, "undefined"), ("c", True, "undefined")])
        self.assertEqual(list(desk.news()), list(desk.news()))
        desk.undo()
        self.assertEqual(list(desk.news()), [("a", "undefined", 2), ("c", "undefined", True)])
        desk.undo(count=2)
        # Only the group that was undone last tells.
        self.assertEqual(list(desk.news()), [("a", 2, 5)])
        desk.redo(count=2)
        self.assertEqual(list(desk.news()), [("b", None, 2), ("c", False, True)])
        desk.undo(count=3)
        self.assertEqual(desk.answers, {"a": "undefined", "b": "undefined", "c": "undefined"})
        self.assertEqual(list(desk.news()), [("a", 5, "undefined"), ("b", None, "undefined"), ("c", False, "undefined")])
        desk.redo(count=4)
        self.assertEqual(list(desk.news()), [("a", 2, "undefined"), ("c", True, "undefined")])

    def test_what_leaves_the_news_as_they_are(self):
        desk = Desk(2)
        desk.apply(GIVE_F, GIVE_G)
        desk.watch("a", ("order", "f"))
        desk.watch("b", ("order", "g"))
        desk.apply(("give", "f", G.rows), ("give", "g", F.rows))
        told = [("a", 5, None), ("b", None, 5)]
        for call in (desk.apply, lambda: desk.undo(count=0), lambda: desk.redo(count=0), lambda: desk.apply_all(()),
                     lambda: desk.tried(("drop", "f")), lambda: desk.set_row_limit(50),
                     lambda: desk.during(lambda one: one.undo(count=2)), lambda: desk.evaluated("f")):
            call()
            self.assertEqual(list(desk.news()), told)
        for call in (lambda: desk.apply(("drop", "x")), lambda: desk.undo(count=9), desk.redo):
            self.assertRaises((UnknownName, NothingToUndo), call)
            self.assertEqual(list(desk.news()), told)
        desk.unwatch("a")
        self.assertEqual(list(desk.news()), told[1:])
        desk.apply(("define", "k", "f"))
        self.assertEqual(list(desk.news()), [])
        self.assertEqual(next(desk.news(), None), None)

    def test_watches_that_are_put_in_later(self):
        desk = Desk.of(2, {"f": F})
        desk.watch("a", ("order", "f"))
        desk.apply(("give", "f", G.rows))
        desk.watch("a", ("image", "f", STREAM))
        desk.watch("b", ("order", "f"))
        # Of these it may tell or not, but if it does, then of the question that is asked now.
        for row in desk.news():
            self.assertIn(row, [("a", F(STREAM), G(STREAM)), ("b", 5, None)])
        desk.undo()
        self.assertEqual(list(desk.news()), [("a", G(STREAM), F(STREAM)), ("b", None, 5)])


class Model:
    """A desk by the definition: all groups with the definitions behind each, and nothing kept up to date."""

    def __init__(self, base, roots):
        self.base, self.roots, self.limit = base, roots, 60
        self.rows, self.at, self.asked, self.last = [((), {})], 0, {}, (0, 0)

    def tables(self, meanings):
        found = {}
        while len(found) < len(meanings):
            for name, meaning in meanings.items():
                if isinstance(meaning, tuple):
                    found[name] = Table(self.base, *meaning)
                elif all(other in found for other in names_in(parse_formula(meaning))):
                    unit = {"id": Table.identity(self.base, roots=self.roots)}
                    found[name] = plain_value(parse_formula(meaning), {**unit, **found})
        return found

    def told(self, at):
        return self.answers(self.tables(self.rows[at][1]))

    def answers(self, tables):
        return {name: plain_answer(self.asked[name], tables) for name in sorted(self.asked)}

    def tried(self, edits):
        return self.answers(self.tables(self.behind(edits)))

    def checked(self, rows):
        table = Table(self.base, *rows)
        if len(table) > self.limit:
            raise TooMany(self.limit)
        return table.rows

    def behind(self, edits):
        now = dict(self.rows[self.at][1])
        for kind, *parts in edits:
            if kind == "give":
                now[parts[0]] = self.checked(parts[1])
            elif kind == "define":
                parse_formula(parts[1])
                now[parts[0]] = parts[1]
            elif kind == "recode":
                change = Table(self.base, *self.checked(parts[0]))
                for name in [name for name in now if isinstance(now[name], tuple)]:
                    now[name] = self.checked((change * Table(self.base, *now[name]) * ~change).rows)
            elif kind == "rename" and parts[1] in now:
                raise InvalidEdit("told")
            elif parts[0] not in now:
                raise UnknownName(parts[0])
            elif kind == "drop":
                del now[parts[0]]
            else:
                now[parts[1]] = now.pop(parts[0])
                for name in [name for name in now if isinstance(now[name], str)]:
                    letters = now[name].replace("~", "~ ").replace("(", "( ").replace(")", " )").split(" ")
                    letters = [parts[1] if letter == parts[0] else letter for letter in letters]
                    now[name] = " ".join(letters).replace("~ ", "~").replace("( ", "(").replace(" )", ")")
        self.check(now)
        return now

    def check(self, now):
        needs = {name: names_in(parse_formula(now[name])) for name in now if isinstance(now[name], str)}
        missing = sorted({other for row in needs.values() for other in row} - set(now))
        if missing:
            raise UnknownName(missing[0])
        for _ in now:
            needs = {name: [other for other in needs[name] if other in needs] for name in needs if
                     any(other in needs for other in needs[name])}
        if needs:
            raise InvalidEdit("told")
        if any(len(table) > self.limit for table in self.tables(now).values()):
            raise TooMany(self.limit)

    def apply_all(self, edits):
        now = self.behind(edits)
        self.rows = self.rows[:self.at + 1] + [(edits, now)]
        self.at, self.last = self.at + 1, (self.at, self.at + 1)
        return self.at

    def step(self, count, way):
        goal = self.at + way * count
        if not 0 <= goal < len(self.rows):
            raise NothingToUndo(count)
        if count and any(len(table) > self.limit for table in self.tables(self.rows[goal][1]).values()):
            raise TooMany(self.limit)
        if count:
            self.at, self.last = goal, (goal - way, goal)
        return goal

    def state(self):
        now = self.rows[self.at][1]
        one, other = self.told(self.last[0]), self.told(self.last[1])
        news = [(name, one[name], other[name]) for name in one if one[name] != other[name]]
        return (tuple(sorted(now)), now, self.told(self.at), self.limit,
                tuple(edits for edits, _ in self.rows[1:self.at + 1]), news)


class ModelTest(Case):

    def chance_edit(self, chance, base, roots, known):
        names = known if known and chance.randrange(4) else ("a", "b", "cc", "d", "e")
        kind = chance.choice(["give", "give", "define", "define", "define", "drop", "rename", "recode"])
        if kind in ("give", "recode"):
            size = chance.choice((1, 3, 5, 30)) if kind == "give" else 3
            rows = chance_rows(chance, base, roots, roots, size)
            return ("recode", rows) if kind == "recode" else ("give", chance.choice(names), rows)
        if kind == "define":
            return kind, chance.choice("abdef"), plain_text(chance_formula(chance, names, 3))
        return ("drop", chance.choice(names)) if kind == "drop" else (kind, chance.choice(names), chance.choice("abdxyz"))

    def same(self, call, other):
        """Check that two calls return the same or raise the same error; tell whether they return."""
        told = []
        for one in (call, other):
            try:
                told.append(one())
            except (UnknownName, InvalidEdit, InvalidTable, TooMany, NothingToUndo, ParseError) as error:
                told.append((error.__class__, vars(error)))
        self.assertEqual(told[0], told[1])
        kind = told[0][0] if isinstance(told[0], tuple) else told[0].__class__
        self.kinds[kind] = self.kinds.get(kind, 0) + 1

    def chance_step(self, chance, desk, model):
        kind = chance.choice(["apply"] * 6 + ["undo", "redo", "limit", "watch", "tried"])
        edits = tuple(self.chance_edit(chance, model.base, model.roots, desk.names) for _ in range(chance.randrange(1, 4)))
        if kind == "apply":
            self.same(lambda: desk.apply(*edits), lambda: model.apply_all(edits))
        elif kind == "tried":
            self.same(lambda: desk.tried(*edits), lambda: model.tried(edits))
        elif kind in ("undo", "redo"):
            count = chance.choice((0, 1, 1, 2, 3))
            self.same(lambda: getattr(desk, kind)(count=count), lambda: model.step(count, 1 if kind == "redo" else -1))
        elif kind == "limit":
            limit = chance.choice((12, 25, 60))
            if all(len(desk[name]) <= limit for name in desk.names):
                desk.row_limit = model.limit = limit
        elif len(desk.names) > 1:
            names = chance.sample(desk.names, 2)
            stream = chance_streams(chance, model.base, model.roots, 1)[0]
            question = chance.choice([("order", names[0]), ("equal", *names), ("alike", *names), ("commute", *names),
                                      ("image", names[0], stream)])
            name = chance.choice("uvwxyz")
            desk.watch(name, question)
            model.asked[name] = question

    def test_desks_and_models(self):
        self.kinds = {}
        for seed in range(60):
            chance = random.Random(seed)
            base, roots = chance.choice((2, 2, 3, 4)), chance.choice((1, 1, 2))
            desk, model = Desk(base, roots=roots), Model(base, roots)
            for _ in range(45):
                asked = dict(model.asked)
                self.chance_step(chance, desk, model)
                told = model.state()
                self.assertEqual((desk.names, desk.definitions, desk.answers, desk.row_limit, desk.log()), told[:5])
                fresh = [name for name in model.asked if asked.get(name) != model.asked[name]]
                if fresh:
                    model.last = (model.at, model.at)
                    continue
                if model.last[0] != model.last[1]:
                    self.assertEqual(list(desk.news()), told[5])
                self.assertEqual({name: desk[name] for name in desk.names}, model.tables(told[1]))
        for kind, least in ((int, 500), (dict, 50), (UnknownName, 100), (InvalidEdit, 50), (TooMany, 20),
                            (NothingToUndo, 50)):
            self.assertGreater(self.kinds[kind], least)

    def test_long_histories(self):
        desk = Desk.of(2, {"f": LONG})
        desk.watch("w", ("order", "f"))
        for at in range(1, 60):
            desk.apply(("define", "g", f"f ** {at % 5}"), ("recode", (FLIP if at % 2 else LAST).rows))
        self.assertEqual([desk.answers, len(desk.log())], [{"w": 256}, 60])
        self.assertEqual(desk.undo(count=59), 1)
        self.assertEqual([desk["f"], desk.answers], [LONG, {"w": 256}])
        self.assertEqual(desk.redo(count=59), 60)
        self.assertTrue(are_alike(desk["f"], LONG))


if __name__ == "__main__":
    unittest.main()
