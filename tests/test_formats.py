"""[14.1] to [14.5] and the module prefixtable.text.formats."""

import random
import re
import unittest

from prefixtable.base.codes import is_code
from prefixtable.errors import (
    InvalidGraph, InvalidMove, InvalidNumber, InvalidOperation, InvalidPrefix, InvalidRegion, InvalidStream,
    InvalidTable, ParseError)
from prefixtable.graphs.closed import closed_graph
from prefixtable.graphs.moves import reduction
from prefixtable.sets.regions import Region
from prefixtable.tables.building import beside_all
from prefixtable.tables.table import Table
from graphs import plain_graph, some_graphs
from small import TWO_ROOTS, small_tables
from support import KEEPS_NOTHING, OTHER_VALUES, Case, changed, chance_streams, plain_least, plain_prefix, plain_stream
from tables import FLIP, NO_TABLES, SPLIT, F, G
from test_codes import comb_code
from test_graphs import FLIP_GRAPH, TREE, TURNED
from test_moves import CHAIN, NO_GRAPHS, NO_MOVES
from test_regions import NO_REGIONS, chance_regions, plain_least_prefixes
from test_streams import NO_PREFIXES, NO_STREAMS
from test_words import NO_BASES
from prefixtable.text.formats import Codec, table_listing

KINDS = ("graph", "moves", "prefix", "region", "stream", "table")
ERRORS = {"graph": InvalidGraph, "moves": InvalidMove, "prefix": InvalidPrefix, "region": InvalidRegion,
          "stream": InvalidStream, "table": InvalidTable}
MOVES = (("cancel", (0, "1"), (0, "")), ("collapse", (0, ""), (0, "1")), ("fold", 3), ("fold", 10 ** 70),
         ("cancel", (4999, "0" * 40), (12, "01")))
SIGNS = ["", " ", "0", "1", "2", "9", "-", ":", ">", "(", ")", ",", ";", "x", "a", "\n", "none", "base 2"]


def plain_written(kind, base, thing):
    """Return the text of a value by the definition."""
    def prefix(value):
        return str(value[0]) + ":" + (value[1] or "-")
    if kind == "prefix":
        return prefix(thing)
    if kind == "stream":
        return prefix(thing[:2]) + "(" + thing[2] + ")"
    if kind == "table":
        return "base " + str(base) + ": " + ", ".join(prefix(left) + " > " + prefix(right) for left, right in thing.rows)
    if kind == "region":
        told = " ".join(prefix(value) for value in thing.prefixes)
        return "base " + str(base) + " region " + str(thing.region_roots) + ": " + (told or "none")
    if kind == "moves":
        told = [" ".join([move[0]] + [str(part) if move[0] == "fold" else prefix(part) for part in move[1:]])
                for move in thing]
        return "; ".join(told) if told else "none"
    rows = ["base " + str(base)] + ["node " + node[0] + " " + prefix(node[1]) for node in thing[1]]
    for a, i, b, j, length in thing[2]:
        rows.append("edge {} {} {} > {} {} {} : {}".format(a[0], prefix(a[1]), i, b[0], prefix(b[1]), j, length))
    return "\n".join(rows + ["loop {} x {}".format(*loop) for loop in thing[3]])


def plain_read(kind, base, text):
    """Return the value with a text by the definition, with the values told by patterns; or None."""
    number, word = "(0|[1-9][0-9]*)", f"(-|[0-{base - 1}]+)"
    place = number + ":" + word

    def prefix(root, told):
        value = (int(root), "" if told == "-" else told)
        return value if value[0] < 5000 else None

    def whole(pattern, row):
        found = re.fullmatch(pattern, row)
        return found.groups() if found else None

    def several(pattern, rows):
        found = [whole(pattern, row) for row in rows]
        return None if None in found else found

    if kind == "prefix":
        found = whole(place, text)
        return found and prefix(*found)
    if kind == "stream":
        found = whole(place + rf"\(([0-{base - 1}]+)\)", text)
        value = found and (int(found[0]), "" if found[1] == "-" else found[1], found[2])
        return value if value and plain_stream(base, 5000, value) else None
    if kind == "table":
        found = several(place + " > " + place, text[8:].split(", ")) if text[:8] == f"base {base}: " else None
        rows = found and tuple((prefix(*row[:2]), prefix(*row[2:])) for row in found)
        if not rows or None in [side for row in rows for side in row] or tuple(sorted(rows)) != rows:
            return None
        sides = [tuple(sorted(side)) for side in zip(*rows)]
        right = all(is_code(base, side[-1][0] + 1, side) for side in sides) and plain_least(base, rows) == rows
        return Table(base, *rows) if right else None
    if kind == "region":
        found = whole(f"base {base} region " + number + ": (.*)", text)
        told = [] if not found or found[1] == "none" else several(place, found[1].split(" "))
        if not found or told is None or not 1 <= int(found[0]) <= 5000:
            return None
        told = tuple(prefix(*row) for row in told)
        if None in told or any(value[0] >= int(found[0]) for value in told) or plain_least_prefixes(base, told) != told:
            return None
        return Region(base, int(found[0]), *told)
    if kind == "moves":
        found = several(f"(cancel|collapse) {place} {place}|fold ([1-9][0-9]*)", text.split("; "))
        if text == "none" or found is None:
            return () if text == "none" else None
        moves = tuple(("fold", int(row[5])) if row[5] else (row[0], prefix(*row[1:3]), prefix(*row[3:5])) for row in found)
        return None if any(None in move for move in moves) else moves
    return plain_read_graph(base, text, "(merge|split) " + place, number, several, prefix)


def plain_read_graph(base, text, node, number, several, prefix):
    """Return the graph with a text by the definition, or None."""
    rows = text.split("\n")
    starts = "".join({"node": "n", "edge": "o", "loop": "p"}.get(row[:4], "x") for row in rows[1:])
    if rows[0] != f"base {base}" or "x" in starts or "".join(sorted(starts)) != starts:
        return None
    nodes = several("node " + node, [row for row in rows if row[:4] == "node"])
    edges = several(f"edge {node} {number} > {node} {number} : {number}", [row for row in rows if row[:4] == "edge"])
    loops = several(f"loop {number} x {number}", [row for row in rows if row[:4] == "loop"])
    if None in (nodes, edges, loops):
        return None
    value = (base, tuple((row[0], prefix(*row[1:])) for row in nodes),
             tuple(((row[0], prefix(*row[1:3])), int(row[3]), (row[4], prefix(*row[5:7])), int(row[7]), int(row[8]))
                   for row in edges), tuple((int(row[0]), int(row[1])) for row in loops))
    return value if plain_graph(value) else None


def some_values(seed, many):
    """Return tuples of a kind, a base and a value of it."""
    chance = random.Random(seed)
    found = [("moves", 2, MOVES), ("moves", 3, ()), ("prefix", 2, (0, "")), ("prefix", 5, (4999, "0123401234" * 30)),
             ("graph", 2, FLIP_GRAPH), ("graph", 2, TURNED), ("graph", 3, CHAIN), ("graph", 2, (2, (), (), ())),
             ("graph", 4, (4, (), (), ((10 ** 60, 5000),)))]
    for table in small_tables(seed, many):
        base = table.base
        found.extend([("table", base, table), ("graph", base, closed_graph(table)),
                      ("moves", base, reduction(closed_graph(table)))])
        for stream in chance_streams(chance, base, 5000, 2):
            found.extend([("stream", base, stream), ("prefix", base, stream[:2])])
    return found + [("region", base, region) for base, _, _, region in chance_regions(seed, many)]


class ExamplesTest(Case):

    def test_printed_examples(self):
        codec = Codec(2)
        self.assertEqual([codec.text("prefix", (0, "")), codec.text("stream", (0, "0", "01")),
                          codec.text("moves", (("fold", 3),))], ["0:-", "0:0(01)", "fold 3"])
        self.check_error(ParseError, KEEPS_NOTHING, codec.parse, "stream", "0:1(01)")
        self.assertEqual(codec.parse("stream", "0:-(10)"), (0, "", "10"))
        self.assertEqual([codec.text("table", FLIP), codec.parse("table", str(G)) == G],
                         ["base 2: 0:0 > 0:1, 0:1 > 0:0", True])
        self.assertEqual(table_listing(FLIP), "0:0          > 0:1\n0:1          > 0:0\n     2 rows")
        self.assertEqual([codec.text("prefix", (0, "011")), codec.text("prefix", (2, ""))], ["0:011", "2:-"])

    def test_texts_that_the_document_prints(self):
        codec = Codec(2)
        self.assertEqual(codec.text("region", Region(2, 1, (0, "00"), (0, "1"))), "base 2 region 1: 0:00 0:1")
        self.assertEqual(codec.text("region", Region(2, 1)), "base 2 region 1: none")
        self.assertEqual(codec.text("moves", MOVES[:3]), "cancel 0:1 0:-; collapse 0:- 0:1; fold 3")
        self.assertEqual(codec.text("moves", ()), "none")
        self.assertEqual(codec.text("graph", FLIP_GRAPH),
                         "base 2\nnode merge 0:-\nnode split 0:-\nedge merge 0:- 0 > split 0:- 0 : 1\n"
                         "edge split 0:- 0 > merge 0:- 1 : 0\nedge split 0:- 1 > merge 0:- 0 : 0")
        self.assertEqual(codec.text("graph", (2, (), (), ((3, 2),))), "base 2\nloop 3 x 2")


class CodecTest(Case):

    def test_class(self):
        self.assertEqual(Codec.KINDS, KINDS)
        for base in (2, 3, 4, 5):
            self.assertEqual([Codec(base).digit_base, Codec.of(Table.identity(base)) == Codec(base)], [base, True])
        self.assertEqual([Codec(2) == Codec(3), Codec(4) == Codec(4), Codec.of(TWO_ROOTS) == Codec(2)],
                         [False, True, True])
        for value in OTHER_VALUES + [F, Codec]:
            self.assertIs(Codec(2) == value, False)
            self.assertIs(Codec.is_kind(value), False)
        for kind in KINDS:
            self.assertIs(Codec.is_kind(kind), True)
            self.assertIs(Codec(2).is_kind(kind), True)
        for value in ("Graph", "prefixes", "move", ["graph"], ("graph",), KINDS):
            self.assertIs(Codec.is_kind(value), False)
        for base in NO_BASES:
            self.check_error(InvalidNumber, base, Codec, base)
        for value in NO_TABLES:
            self.check_error(InvalidTable, KEEPS_NOTHING, Codec.of, value)
        self.assertEqual(Codec.of(SPLIT).digit_base, 2)

    def test_kinds_that_are_none(self):
        for kind in OTHER_VALUES + [F, "Table", "tables", "move", ["table"], ("table",), "prefix "]:
            for codec in (Codec(2), Codec(5)):
                self.check_error(InvalidOperation, KEEPS_NOTHING, codec.text, kind, None)
                self.check_error(InvalidOperation, KEEPS_NOTHING, codec.parse, kind, None)

    def test_values_that_are_written_and_read(self):
        for kind, base, thing in some_values(1, 60):
            codec = Codec(base)
            text = codec.text(kind, thing)
            self.assertEqual(text, plain_written(kind, base, thing))
            self.assertEqual(codec.parse(kind, text), thing)
            if kind in ("table", "region"):
                self.assertEqual(str(thing), text)
            for other in KINDS:
                if other != kind:
                    self.check_read(codec, other, text)
            # Only texts without a base can be read with another one.
            for wrong in (other for other in (2, 3, 4, 5) if other != base):
                self.check_read(Codec(wrong), kind, text)
                if kind in ("table", "region", "graph"):
                    self.check_error(ParseError, KEEPS_NOTHING, Codec(wrong).parse, kind, text)

    def check_read(self, codec, kind, text):
        """Check that a text is read just if it is the text of a value; tell whether it is."""
        told = plain_read(kind, codec.digit_base, text)
        if told is None:
            self.check_error(ParseError, KEEPS_NOTHING, codec.parse, kind, text)
        else:
            self.assertEqual(codec.parse(kind, text), told)
            self.assertEqual(codec.text(kind, told), text)
        return told is not None

    def test_texts_with_one_change(self):
        chance = random.Random(3)
        read = dict.fromkeys(KINDS, 0)
        values = some_values(2, 12)
        for kind, base, thing in values:
            codec = Codec(base)
            text = codec.text(kind, thing)
            places = range(len(text)) if len(text) < 60 else chance.sample(range(len(text)), 40)
            for at in places:
                signs = chance.sample(SIGNS, 4) + ["", text[at] * 2]
                for sign in signs:
                    read[kind] += self.check_read(codec, kind, text[:at] + sign + text[at + 1:])
                read[kind] += self.check_read(codec, kind, text[:at] + chance.choice(SIGNS) + text[at:])
            for other in (text + " ", " " + text, text + "\n", text + text, text[:-1], text.upper(), text + ",", text + "; "):
                read[kind] += self.check_read(codec, kind, other)
        for kind in KINDS:
            self.assertGreater(read[kind], 10, kind)

    def test_texts_that_are_nearly_right(self):
        wrong = {
            "prefix": ["", ":", "0:", ":0", "0:-0", "0:0-", "00:1", "01:1", "+1:0", "-1:0", "0:2", "5000:0", "0 :0", "0:--",
                       "0:0:0", "\u0663:0", "1_0:0", "0x1:0", "4999", "1" * 300 + ":0"],
            "stream": ["0:-()", "0:-(-)", "0:(01)", "0:0(0)", "0:1(01)", "0:-(00)", "0:-(0101)", "0:-(01", "0:-01)",
                       "0:-(01))", "0:-((01)", "0:-(01)0", "0:-(2)", "00:-(01)", "5000:-(01)", "0:-0(1)", "(01)"],
            "table": ["", "base 2:", "base 2: ", "base 2: none", "base 2: 0:- > 0:-,", "base 2: 0:- > 0:-, ",
                      "base 2:0:- > 0:-", "base 02: 0:- > 0:-", "base 3: 0:- > 0:-", "base 6: 0:- > 0:-", "0:- > 0:-",
                      "base 2: 0:0 > 0:0, 0:1 > 0:1", "base 2: 0:1 > 0:0, 0:0 > 0:1", "base 2: 0:0 > 0:1, 0:1 > 0:0, 0:1 > 0:0",
                      "base 2: 0:0 > 0:1", "base 2: 0:0 > 0:1, 0:1 > 0:1", "base 2: 0:0 > 0:1,0:1 > 0:0",
                      "base 2: 0:0>0:1, 0:1>0:0", "base 2: 0:0 < 0:1, 0:1 < 0:0", "base 2: 1:- > 1:-",
                      "base 2: 0:0 > 0:1 > 0:1, 0:1 > 0:0", "base 2: 0:- > 0:- ", "base 2: 0:0 > 0:1\n0:1 > 0:0"],
            "region": ["", "base 2 region 1:", "base 2 region 1: ", "base 2 region 1: none ", "base 2 region 0: none",
                       "base 2 region 5001: none", "base 2 region 01: none", "base 3 region 1: none", "base 2 region : none",
                       "base 2 region 1: 0:0 0:1", "base 2 region 1: 0:1 0:00", "base 2 region 1: 0:1 0:1",
                       "base 2 region 1: 0:0, 0:11", "base 2 region 1: 0:0  0:11", "base 2 region 1: 1:0",
                       "base 2 region 1: 0:0 0:00", "base 2 region 1: 0:- none", "base 2 region 1: 0:2", "base 2: none",
                       "base 2 region -1: none", "base 2 region 1 0:0", "base 2 region " + "1" * 300 + ": none"],
            "moves": ["", "none; none", "fold 0", "fold -1", "fold 03", "fold", "fold 1 1", "fold 3;fold 3", "fold 3; ",
                      "fold 3;", "; fold 3", "fold 3; none", "none; fold 3", "cancel 0:1", "cancel 0:1 0:2", "Fold 3",
                      "cancel 0:1 0:- 0:-", "cancel  0:1 0:-", "merge 0:1 0:-", "collapse 0:1, 0:-", "cancel 5000:1 0:-"],
            "graph": ["", "base 3", "base 02", "base 2\n", "\nbase 2", "base 2\nloop 3 x 0", "base 2\nloop 0 x 3", "base 6",
                      "base 2\nloop 3 x 5001", "base 2\nloop 3 x 2\nloop 3 x 2", "base 2\nloop 4 x 2\nloop 3 x 2",
                      "base 2\nloop 03 x 2", "base 2\nloop 3 x 02", "base 2\nloop 3x2", "base 2 loop 3 x 2", "base 2\nnone",
                      "base 2\nnode merge 0:-", "base 2\n\nloop 3 x 2", "base 2\nloop 3 x 2 ", "base 2\nfold 3", "loop 3 x 2"]}
        for kind, texts in wrong.items():
            for text in texts:
                self.assertFalse(self.check_read(Codec(2), kind, text), (kind, text))
            for value in [value for value in OTHER_VALUES if not isinstance(value, str)] + [F, ["0:0"], ("none",)]:
                self.check_error(ParseError, KEEPS_NOTHING, Codec(2).parse, kind, value)
            for value in [value for value in OTHER_VALUES if isinstance(value, str)]:
                self.assertFalse(self.check_read(Codec(2), kind, value))

    def test_graphs_with_parts_in_another_order(self):
        chance = random.Random(4)
        for graph in [graph for graph in some_graphs(5, 40) + [TREE] if graph[1]]:
            codec = Codec(graph[0])
            rows = codec.text("graph", graph).split("\n")
            for _ in range(10):
                one, other = sorted(chance.sample(range(len(rows)), 2))
                turned = rows[:one] + [rows[other]] + rows[one + 1:other] + [rows[one]] + rows[other + 1:]
                self.check_error(ParseError, KEEPS_NOTHING, codec.parse, "graph", "\n".join(turned))
                self.check_error(ParseError, KEEPS_NOTHING, codec.parse, "graph", "\n".join(rows[:one] + rows[one + 1:]))

    def test_long_texts(self):
        code = comb_code(2, 1500)
        table = Table(2, *zip(code, code[1:] + code[:1]))
        codec = Codec(2)
        self.assertGreater(len(codec.text("table", table)), 10 ** 6)
        self.assertEqual(codec.parse("table", codec.text("table", table)), table)
        self.check_error(ParseError, KEEPS_NOTHING, codec.parse, "table", codec.text("table", table)[:-1])
        region = Region(2, 1, *code[::2])
        self.assertEqual(codec.parse("region", codec.text("region", region)), region)
        most = Table(2, *[((root, ""), ((root + 1) % 5000, "")) for root in range(5000)])
        self.assertEqual(codec.parse("table", str(most)), most)
        more = ", ".join(f"{root}:- > {root}:-" for root in range(4999)) + ", 4999:0 > 4999:1, 4999:1 > 4999:0"
        self.check_error(ParseError, KEEPS_NOTHING, codec.parse, "table", "base 2: " + more)
        many = [f"{root}:{word}" for root in range(2501) for word in ("00", "11")]
        for count, fits in ((5000, True), (5001, False), (5002, False)):
            text = "base 2 region 5000: " + " ".join(sorted(many[:count], key=lambda word: (int(word.split(":")[0]), word)))
            if fits:
                self.assertEqual(len(codec.parse("region", text)), 5000)
            else:
                self.check_error(ParseError, KEEPS_NOTHING, codec.parse, "region", text)
        moves = tuple(("fold", 10 ** at + 1) for at in range(1, 300)) + MOVES * 50
        self.assertEqual(codec.parse("moves", codec.text("moves", moves)), moves)
        graph = closed_graph(beside_all((F,) * 15))
        self.assertEqual(codec.parse("graph", codec.text("graph", graph)), graph)
        loop = (2, (), (), ((10 ** 3990, 1),))
        self.assertEqual(codec.parse("graph", codec.text("graph", loop)), loop)
        for text in ("9" * 4000, "9" * 3990 + ":0", " " * 4000, "\n" * 4000, "~" * 4000, "0:" + "01" * 1999, "fold " + "9" * 3995,
                     "base 2\nloop 1 x " + "9" * 3980, "base 2 region " + "9" * 3980 + ": none", "base 2: " + "0:0 > " * 660,
                     "base 2\n" + "node " * 790, "base 2\n" + "edge merge\n" * 350, "; " * 2000, "fold 1; " * 500):
            for kind in KINDS:
                self.check_read(codec, kind, text)

    def test_errors_of_things(self):
        wrong = {"graph": NO_GRAPHS + [(3,) + FLIP_GRAPH[1:], CHAIN, str(FLIP_GRAPH), (3, (), (), ())],
                 "moves": [(move,) for move in NO_MOVES] + [MOVES[:2] + (move,) for move in NO_MOVES] + [
                     F, list(MOVES), "none", None, ("fold", 3), 0, {}, (("cancel", (0, "2"), (0, "")),), (MOVES,)],
                 "prefix": NO_PREFIXES + [(0, "2"), (5000, ""), F],
                 "region": NO_REGIONS + [Region(3, 1), Region.whole(5, 2)],
                 "stream": NO_STREAMS + [(0, "", "2"), (5000, "", "0"), (0, "0", "10"), F],
                 "table": NO_TABLES + [Table.identity(3), Table.identity(5, roots=3)]}
        for kind in KINDS:
            for thing in wrong[kind]:
                if kind == "moves" and thing == ():
                    continue
                self.check_error(ERRORS[kind], KEEPS_NOTHING, Codec(2).text, kind, thing)
        for value in OTHER_VALUES:
            for kind in KINDS:
                fits = (kind == "moves" and value == () or kind == "prefix" and plain_prefix(2, 5000, value)
                        or kind == "stream" and plain_stream(2, 5000, value))
                if isinstance(value, (tuple, list)) and fits and isinstance(value, tuple):
                    self.assertEqual(Codec(2).parse(kind, Codec(2).text(kind, value)), value)
                else:
                    self.check_error(ERRORS[kind], KEEPS_NOTHING, Codec(2).text, kind, value)
        for value in changed((("fold", 3), ("cancel", (0, "1"), (0, "")))):
            try:
                told = Codec(2).text("moves", value)
            except InvalidMove:
                continue
            self.assertEqual(repr(plain_read("moves", 2, told)), repr(value))
        # Moves that are possible in no graph have texts, too.
        self.assertEqual(Codec(2).text("moves", (("cancel", (7, ""), (7, "")),)), "cancel 7:- 7:-")


class ListingTest(Case):

    def test_short_and_long_prefixes(self):
        table = Table(2, ((4, ""), (0, "")), ((0, "0000000000"), (1, "0")),
                      *[((0, "0" * at + "1"), (1, "1" * (10 - at) + "0")) for at in range(1, 10)], ((0, "1"), (1, "1" * 10)),
                      ((1, ""), (2, "")), ((2, ""), (3, "")), ((3, ""), (4, "")))
        told = table_listing(table).split("\n")
        self.assertEqual(told[:3], ["0:0000000000 > 1:0", "0:0000000001 > 1:10", "0:000000001  > 1:110"])
        self.assertEqual(told[-3:], ["3:-          > 4:-", "4:-          > 0:-", "    15 rows"])
        table = Table(2, *[((0, "1" * at + "0"), (0, "0" * at + "1")) for at in range(13)], ((0, "1" * 13), (0, "0" * 13)))
        self.assertEqual(table_listing(table).split("\n")[-4:],
                         ["0:11111111110 > 0:00000000001", "0:111111111110 > 0:000000000001",
                          "0:1111111111110 > 0:0000000000001", "0:1111111111111 > 0:0000000000000"][-3:] + ["    14 rows"])

    def test_numbers_of_rows(self):
        for many, last in ((1, "     1 rows"), (999, "   999 rows"), (1000, " 1,000 rows"), (4999, " 4,999 rows"),
                           (5000, " 5,000 rows")):
            table = Table(2, *[((root, ""), (root, "")) for root in range(many)])
            lines = table_listing(table).split("\n")
            self.assertEqual([len(lines), lines[-1]], [many + 1, last])
            self.assertEqual(lines[-2], f"{many - 1}:-".ljust(12) + f" > {many - 1}:-")
        for table in small_tables(6, 50) + [SPLIT, ~SPLIT]:
            codec = Codec.of(table)
            lines = [codec.text("prefix", left).ljust(12) + " > " + codec.text("prefix", right) for left, right in table.rows]
            self.assertEqual(table_listing(table), "\n".join(lines + [str(len(table)).rjust(6) + " rows"]))

    def test_errors(self):
        for value in NO_TABLES:
            self.check_error(InvalidTable, KEEPS_NOTHING, table_listing, value)


if __name__ == "__main__":
    unittest.main()
