"""The tables of the document's examples, and values that are no tables."""

from prefixtable.tables.table import Table
from support import OTHER_VALUES

F = Table(2, ((0, "0"), (0, "11")), ((0, "10"), (0, "00")), ((0, "110"), (0, "01")), ((0, "111"), (0, "10")))
G = Table(2, ((0, "00"), (0, "0")), ((0, "01"), (0, "10")), ((0, "1"), (0, "11")))
FLIP = Table(2, ((0, "0"), (0, "1")), ((0, "1"), (0, "0")))
LAST = Table(2, ((0, "0"), (0, "0")), ((0, "10"), (0, "11")), ((0, "11"), (0, "10")))
NO_TABLES = OTHER_VALUES + [F.rows, [F], (F,), str(F), {0: F}]
# From one root to two, and from three to one.
SPLIT = Table(2, ((0, "0"), (0, "")), ((0, "1"), (1, "")))
GATHER = Table(3, ((0, ""), (0, "1")), ((1, ""), (0, "2")), ((2, ""), (0, "0")))
