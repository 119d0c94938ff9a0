"""All functions, classes, methods and constants of the document, with right arguments for each of them."""

from prefixtable.sets.regions import Region
from prefixtable.tables.table import Table
from small import TWO_ROOTS
from tables import FLIP, SPLIT, F, G
from test_graphs import FLIP_GRAPH

A, B = ((0, "0"), (0, "10"), (0, "11")), ((0, "00"), (0, "01"), (0, "1"))
X, Y = (0, "01", "10"), (0, "0", "1")
ZERO = Region(2, 1, (0, "0"))
CANCEL = ("cancel", (0, ""), (0, ""))
REDUCED = (Table(2, ((0, "0"), (0, "")), ((0, "1"), (1, ""))), Table(2, ((0, ""), (1, "")), ((1, ""), (0, ""))))
# Module: function: arguments by position, and by keyword in a dict at the end where there are some.
FUNCTIONS = {
    "base.words": {"is_base": (2,), "is_word": (2, "01"), "is_prefix": (2, 1, (0, "1"))},
    "base.streams": {
        "is_stream": (2, 1, X), "make_stream": (2, 0, "0110", "1010"), "digits": (2, X), "beginning": (2, X, 5),
        "begins_with": (2, X, (0, "011")), "replaced": (2, X, (0, "011"), (1, "")), "common_beginning": (2, X, Y),
        "precedes": (2, X, Y), "tail_shift": (2, X, Y)},
    "base.codes": {
        "is_code": (2, 1, A), "root_code": (2,), "make_code": (2, 1, (0, "11"), (0, "0"), (0, "10")), "code_from": (2, 1, A),
        "code_through": (2, 1, (0, "10"), (0, "1")), "code_through_all": (2, 1, ((0, "10"),)), "inner_nodes": (2, A),
        "expanded": (2, A, (0, "0")), "contracted": (2, A, (0, "1")), "joined": (2, A, B), "joined_all": (2, (A, B)),
        "met": (2, A, B), "met_all": (2, (A, B)), "refines": (2, A, B), "prefix_in": (2, A, X),
        "codes_of_size": (2, 1, 3), "count_codes": (2, 1, 4)},
    "tables.table": {"difference": (F, G)},
    "tables.building": {
        "swap": (2, 1, (0, "0"), (0, "10")), "cycle": (2, 1, (0, "0"), (0, "10")), "cycle_of": (2, 1, A),
        "within": (G, 2, (1, "1")), "beside": (G, FLIP), "beside_all": ((G, FLIP),), "in_order": (2, A, B),
        "swaps_of": (F,), "is_swaps": (FLIP, (((0, "0"), (0, "1")),)),
        "product_of_swaps": (2, 1, (((0, "0"), (0, "1")),)), "sign": (Table.identity(3),)},
    "tables.kinds": {
        "keeps_order": (G,), "order_break": (FLIP,), "is_order_break": (FLIP, ((0, "", "0"), (0, "", "1"))),
        "keeps_round": (F,), "round_break": (F,), "is_round_break": (F, (X, Y, X)), "fixed_prefixes": (G,),
        "lone_fixed_streams": (G,), "moved_prefix": (F,), "is_moved_prefix": (G, ((0, "01"), (0, "10")))},
    "orders.orders": {
        "is_permuted_code": (FLIP, ((0, "0"), (0, "1"))), "least_permuted_code": (F,),
        "cycles_of": (FLIP, ((0, "0"), (0, "1")))},
    "orders.growth": {
        "growth": (G,), "is_growth": (G, ((0, "1"), 1, "1")), "order_certificate": (G,),
        "is_order_certificate": (FLIP, ("permuted", ((0, "0"), (0, "1"))))},
    "orders.orbits": {
        "path": (G, X), "orbit_certificate": (G, X), "is_orbit_certificate": (G, Y, ("runs", 1, ((0, "1"), 1, "1"))),
        "return_time": (G, X), "limit_cycle": (G, X), "exponent": (G, X, Y), "germ": (G, X, 2)},
    "sets.regions": {
        "image": (G, ZERO), "preimage": (G, ZERO), "is_kept": (G, ZERO), "kept_part": (G, ZERO, {"steps": 2}),
        "first_returns": (F, ZERO, {"most": 4}), "never_back": (F, ZERO, {"most": 4}),
        "return_map": (F, ZERO, {"most": 3})},
    "graphs.closed": {"closed_graph": (FLIP,), "is_graph": (FLIP_GRAPH,)},
    "graphs.moves": {
        "possible_moves": (FLIP_GRAPH,), "after_move": (FLIP_GRAPH, CANCEL), "after_moves": (FLIP_GRAPH, CANCEL),
        "after_all_moves": (FLIP_GRAPH, (CANCEL,)), "is_reduced": (FLIP_GRAPH,), "reduction": (FLIP_GRAPH,),
        "reversed_graph": (FLIP_GRAPH,)},
    "graphs.matching": {
        "matching": (FLIP_GRAPH, FLIP_GRAPH), "is_matching": (FLIP_GRAPH, FLIP_GRAPH, ((), ())),
        "likeness_certificate": (F, G), "is_likeness_certificate": (F, G, ("unlike", (CANCEL,), (CANCEL,))),
        "are_alike": (F, G)},
    "graphs.circles": {"growing_circles": (G,), "shrinking_circles": (G,), "loop_lengths": (F,), "order": (F,)},
    "recodings.reduced": {
        "root_expansion": (2, 2, 0), "root_gathering": (2, 3, (2, 0)), "recoded": (G, SPLIT),
        "is_reduced_table": (FLIP,), "reduced_form": (FLIP,), "is_reduced_form": (FLIP, REDUCED)},
    "recodings.recodings": {"recoding": (G, F * G * ~F), "is_recoding": (G, G, G)},
    "powers.powers": {"exponent_between": (G, ~G), "commute": (F, G)},
    "powers.words": {
        "word_value": ("f ~g", {"g": G, "f": F}), "value_of": ("f ~g", {"f": F, "g": G}),
        "reduced_texts": ({"g": G, "f": F}, 2), "relations": ({"h": FLIP, "f": F}, 2),
        "shortest_text": (F, {"g": G, "f": F}, 2)},
    "desk.formulas": {
        "is_formula": (("name", "a"),), "format_formula": (("inverse", ("name", "a")),), "parse_formula": ("~a ** 2",),
        "names_in": (("product", ("name", "b"), ("name", "a")),),
        "formula_value": (("power", ("name", "a"), 2), {"b": F, "a": G})},
    "text.formats": {"table_listing": (FLIP,)}}
ENDLESS = {"digits", "path"}
CLASSES = {
    "tables.table": {"Table": """__init__ of identity base rows left_roots right_roots left_code right_code is_square takes
        __getitem__ __contains__ __call__ over __mul__ __invert__ __pow__ power __eq__ __bool__ __len__ __str__"""},
    "sets.regions": {"Region": """__init__ of whole region_base region_roots prefixes __or__ __and__ __sub__ __invert__
        __contains__ has_prefix within __eq__ __bool__ __len__ __str__"""},
    "desk.desk": {"Desk": """__init__ of __getitem__ __contains__ __len__ __eq__ __str__ names definitions answers row_limit
        set_row_limit evaluated watch unwatch news apply apply_all tried undo redo log trial during"""},
    "text.formats": {"Codec": "__init__ of is_kind digit_base __eq__ text parse"}}
CONSTANTS = {"base.codes": {"MAX_ROWS": 5000}, "orders.orders": {"MAX_SMALL": 9}, "graphs.closed": {"MAX_DRAWN": 60},
             "orders.orbits": {"MAX_HEAD": 30, "MAX_WAIT": 20000}}
CLASS_VALUES = {("tables.table", "Table"): {"MAX_ROWS": 5000}, ("sets.regions", "Region"): {"MOST": 5000},
                ("desk.desk", "Desk"): {"LARGEST": 60},
                ("text.formats", "Codec"): {"KINDS": ("graph", "moves", "prefix", "region", "stream", "table")}}
# Objects with methods and right arguments for them; each call gets a new object.
METHODS = [
    (lambda: F, {"takes": ((0, "0"),), "power": (3,), "over": (F.left_code,), "__getitem__": ((0, "0"),), "__contains__": ((0, "0"),),
                 "__call__": (X,), "__mul__": (G,), "__pow__": (2,), "__eq__": (G,)}),
    (lambda: TWO_ROOTS, {"takes": ((1, "0"),), "__call__": (X,), "__pow__": (-2,)}),
    (lambda: ZERO, {"has_prefix": ((0, "01"),), "within": (ZERO,), "__contains__": (X,), "__or__": (ZERO,), "__and__": (ZERO,),
                    "__sub__": (ZERO,), "__eq__": (ZERO,)})]
MAKERS = {"Table": [("__init__", (2,) + F.rows), ("of", (2, F.rows)), ("identity", (2, {"roots": 3}))],
          "Region": [("__init__", (2, 1, (0, "0"))), ("of", (2, 1, ((0, "0"),))), ("whole", (2, 1))],
          "Desk": [("__init__", (2, {"roots": 1, "row_limit": 60})), ("of", (2, {"f": F}, {"roots": 1}))],
          "Codec": [("__init__", (2,)), ("of", (F,)), ("is_kind", ("graph",))]}
