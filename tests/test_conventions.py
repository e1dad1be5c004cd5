"""[2] for each function of the interface: arguments, results, repeated calls, and the sequence of errors."""

import copy
import importlib
import inspect
import unittest

from tests.helper import lists_in, same_kinds
from webnames.errors import InvalidMany
from webnames.rings import ring_rank

K = ("k", 0)
STAR = ([K, ("a", 0), ("b", 1), ("a", 0)], [(0, 1, 1), (0, 2, 1), (0, 3, 1)], [(0, 1)], [])
ROW = ([K] * 6, [(0, 2, 1), (1, 2, 1), (2, 3, 2), (3, 4, 1), (3, 5, 1)], [], [(2, 3, -1)])
NET = ([K] * 6, [(0, 1, 1), (0, 2, 1), (1, 2, 2), (1, 3, 1), (2, 3, 1), (3, 4, 1)], [(1, 1), (3, -1)], [(1, 2, 1)])
TURN, FLIP = [1, 2, 3, 0], [0, 3, 2, 1]
RING = ([K] * 4, [(0, 1, 1), (0, 3, 1), (1, 2, 1), (2, 3, 1)], [], [])
HANDED = ([("c", 0)] + [K] * 4, [(0, 1, 1), (0, 2, 1), (0, 3, 1), (0, 4, 1)], [(0, 1)], [])
PATCH = ([K] * 7, [(0, 1, 1), (0, 3, 1), (1, 2, 1), (2, 3, 1), (4, 5, 1), (4, 6, 1), (5, 6, 1)], [], [])
SWAP, SWAPS = ([K] * 2, [], [], []), [(0, [("to", 0, [0, 1]), ("to", 1, [1, 0])])]
PAPER = ([("stay",), ("given", 0), ("then", 1, 1)], [[(0, 0), (1, 1), (2, 2)], [(1, 0)], [(2, 0)]])
PAIR = ([((), None), (("k",), 0)], [(0, 1, (1, 2))], [], [])
HAND = ([((), None)] * 4, [(0, 1, (1,)), (0, 2, (1,)), (0, 3, (1,))], [(0, 1)], [])
RULE = (([((), None)], [], [], []), [("new", "c", 0), ("tie", 0, 1, 1)])
TEXT = "a: k; b: n -1; c: k; d: k; a 1 b; a 1 c; a 1 d; a hand + d c b # x"

# Each function with its parameters' names as the interface has them, and arguments to try.
CALLS = {
    "basics": [
        ("is_integer", {"value": 3}), ("is_count", {"value": 3}), ("is_sign", {"value": -1}),
        ("ranked", {"keys": [[3], [1], [3]]}),
    ],
    "webs": [
        ("is_part", {"value": K}), ("is_web", {"value": NET}), ("neighbours", {"web": NET, "part": 1}),
        ("ties_of", {"web": NET, "part": 1}), ("further", {"web": NET, "part": 1, "other": 2}),
        ("tie_order", {"web": NET, "a": 2, "b": 1}), ("has_hand", {"web": NET, "part": 1}),
        ("has_sides", {"web": NET, "a": 2, "b": 1}), ("can_bear_hand", {"web": NET, "part": 0}),
        ("can_bear_sides", {"web": NET, "a": 2, "b": 1}), ("hand_at", {"web": NET, "part": 1, "sequence": [3, 0, 2]}),
        ("side_at", {"web": NET, "a": 1, "b": 2, "x": 3, "y": 0}),
        ("made", {"parts": STAR[0], "ties": [(3, 0, 1), (0, 1, 1), (2, 0, 1)], "hands": [(0, [3, 1, 2], 1)], "sides": []}),
        ("made", {"parts": [], "ties": [], "hands": [], "sides": []}),
    ],
    "numberings": [
        ("is_numbering", {"value": [1, 0], "many": 2}), ("straight", {"many": 4}),
        ("then", {"first": TURN, "second": FLIP}), ("back", {"numbering": TURN}),
        ("sign_by_pairs", {"numbers": [5, -3, 9]}), ("sign_of", {"numbers": [5, -3, 9]}), ("rounds", {"numbering": FLIP}),
        ("exchanges", {"numbering": TURN}), ("renumbered", {"web": STAR, "numbering": TURN}),
        ("renumbered", {"web": NET, "numbering": [0, 1, 2, 3, 4, 5]}), ("carried", {"web": STAR, "numbering": TURN}),
        ("carried", {"web": ROW, "numbering": [0, 1, 2, 3, 4, 5]}),
        ("is_pairing", {"web": STAR, "other": STAR, "value": [0, 1, 2, 3]}),
    ],
    "mirrors": [
        ("mirror", {"web": NET}), ("bare", {"web": NET}), ("bare", {"web": ([K], [], [], [])}),
        ("turned_hand", {"web": NET, "part": 1}), ("turned_side", {"web": NET, "a": 2, "b": 1}),
        ("hand_parts", {"web": NET}), ("side_ties", {"web": NET}), ("signs", {"web": NET}),
        ("with_signs", {"web": NET, "hands": [1, 1], "sides": [-1]}),
    ],
    "perms": [
        ("compose", {"many": 4, "numberings": [TURN]}), ("compose", {"many": 4, "numberings": []}),
        ("shape", {"numbering": TURN}), ("order_of", {"numbering": TURN}), ("powers", {"numbering": TURN}),
        ("power", {"numbering": TURN, "exponent": 1}), ("from_rounds", {"many": 4, "rows": [[3, 1], []]}),
        ("conjugate", {"numbering": TURN, "by": [0, 1, 2, 3]}), ("conjugator", {"first": TURN, "second": [3, 0, 1, 2]}),
    ],
    "closing": [
        ("plain_group", {"many": 4, "numberings": [TURN, FLIP]}),
        ("word", {"many": 4, "numberings": [TURN, FLIP], "numbering": TURN}),
        ("is_group", {"many": 2, "value": [[0, 1], [1, 0]]}),
    ],
    "orbits": [
        ("orbit_of", {"many": 4, "numberings": [FLIP], "part": 1}), ("orbits", {"many": 4, "numberings": [FLIP]}),
        ("orbit_paths", {"many": 4, "numberings": [TURN, FLIP], "part": 1}),
        ("row_orbit", {"many": 4, "numberings": [FLIP], "row": [1, 2]}),
        ("row_orbit", {"many": 4, "numberings": [], "row": [1, 2]}),
        ("pair_orbits", {"many": 4, "numberings": [FLIP]}), ("orbit_count", {"many": 4, "numberings": [FLIP]}),
        ("paintings", {"many": 4, "numberings": [FLIP], "most": 2}),
        ("painting_count", {"many": 4, "numberings": [FLIP], "most": 2}),
    ],
    "chains": [
        ("group_paper", {"many": 4, "numberings": [TURN, FLIP]}), ("group_paper", {"many": 4, "numberings": []}),
        ("is_group_paper", {"many": 3, "numberings": [[1, 2, 0]], "value": PAPER}),
        ("paper_has", {"many": 3, "numberings": [[1, 2, 0]], "paper": PAPER, "numbering": [2, 0, 1]}),
        ("group_order", {"many": 4, "numberings": [TURN, FLIP]}),
        ("is_in", {"many": 4, "numberings": [TURN], "numbering": FLIP}),
        ("steps_to", {"many": 4, "numberings": [TURN, FLIP], "numbering": FLIP}),
        ("is_steps", {"many": 3, "numberings": [[1, 2, 0]], "numbering": [2, 0, 1], "value": [("given", 0), ("back", 0)]}),
    ],
    "members": [
        ("all_members", {"many": 4, "numberings": [TURN, FLIP]}), ("all_members", {"many": 4, "numberings": []}),
        ("member_at", {"many": 4, "numberings": [TURN, FLIP], "place": 3}),
        ("place_of", {"many": 4, "numberings": [TURN, FLIP], "numbering": TURN}),
        ("keeping", {"many": 4, "numberings": [TURN, FLIP], "parts": [0]}),
        ("keeping_order", {"many": 4, "numberings": [TURN, FLIP], "parts": [0]}),
        ("least_row", {"many": 4, "numberings": [TURN], "row": [3, 1, 3]}),
        ("leads_to", {"many": 4, "numberings": [TURN], "row": [3, 1], "other": [0, 2]}),
    ],
    "pieces": [
        ("pieces", {"web": NET}), ("merged_pieces", {"web": NET}), ("piece_web", {"web": NET, "parts": [0, 1, 2, 3]}),
        ("put_together", {"webs": [NET]}), ("put_together", {"webs": [STAR, STAR]}), ("piece_numbering", {"web": NET}),
    ],
    "ways": [
        ("is_way", {"web": NET, "value": [0, 1]}), ("distances", {"web": NET, "part": 0}), ("all_distances", {"web": NET}),
        ("least_way", {"web": NET, "first": 0, "last": 4}), ("bridges", {"web": NET}), ("bridges_walk", {"web": NET}),
        ("cut_parts", {"web": NET}), ("cut_parts_walk", {"web": NET}), ("blocks", {"web": NET}),
        ("blocks_walk", {"web": NET}),
    ],
    "rings": [
        ("is_ring", {"web": NET, "value": [0, 1, 2]}), ("is_tie_set", {"web": NET, "value": [0, 2]}),
        ("ring_form", {"parts": [0, 1, 2]}), ("ring_form", {"parts": [2, 1, 0]}),
        ("ring_ties", {"web": NET, "ring": [0, 1, 2]}), ("ring_of", {"web": NET, "tie_set": [0, 1, 2]}),
        ("rings_to", {"web": NET, "many": 24}), ("rings_plain", {"web": NET, "many": 24}), ("ring_rank", {"web": NET}),
        ("ring_through", {"web": NET, "place": 0}),
    ],
    "bases": [
        ("sum_of", {"first": [0, 1], "second": []}), ("is_odd", {"first": [0, 1], "second": [1]}),
        ("is_independent", {"web": NET, "rings": [[0, 1, 2], [1, 2, 3]]}),
        ("as_sum", {"web": NET, "rings": [[0, 1, 2], [1, 2, 3]], "tie_set": [0, 1, 3, 4]}), ("plain_base", {"web": NET}),
        ("odd_ring", {"web": NET, "tie_set": [0]}), ("base_paper", {"web": NET}),
        ("is_base_paper", {"web": NET, "value": [([0, 1, 2], [0]), ([1, 2, 3], [4])]}), ("ring_base", {"web": NET}),
        ("is_ring_base", {"web": NET, "value": [[1, 2, 3], [0, 1, 2]]}), ("ring_lengths", {"web": NET}),
    ],
    "words": [("is_part_name", {"value": "a"}), ("own_names", {"many": 3}), ("tokens", {"text": TEXT})],
    "reader": [
        ("statements", {"text": TEXT}), ("read_web", {"text": TEXT}), ("is_web_text", {"value": TEXT}),
        ("text_pairing", {"first": TEXT, "second": TEXT}),
    ],
    "writer": [
        ("statement_texts", {"web": STAR, "names": ["a", "b", "c", "d"]}),
        ("write_web", {"web": STAR, "names": ["a", "b", "c", "d"]}), ("name_text", {"web": NET}),
        ("read_name", {"text": "p0: c; p1: c; p0 1 p1"}), ("is_name_text", {"value": "p0: c"}), ("tidy_text", {"text": TEXT}),
    ],
    "keys": [
        ("is_colouring", {"many": 2, "value": [0, 1]}), ("part_key", {"web": NET, "part": 1}),
        ("first_colouring", {"web": NET}), ("cells_of", {"colouring": [1, 0, 1]}), ("trace_of", {"colouring": [1, 0, 1]}),
        ("is_discrete", {"colouring": [1, 0]}), ("is_finer", {"colouring": [1, 0], "other": [0, 0]}),
        ("keeps_sequence", {"colouring": [1, 0], "other": [0, 0]}),
        ("colouring_led", {"colouring": [1, 0], "numbering": [0, 1]}),
    ],
    "rounds": [
        ("round_key", {"web": NET, "colouring": [0] * 6, "part": 1}), ("one_round", {"web": NET, "colouring": [0] * 6}),
        ("one_round", {"web": RING, "colouring": [0] * 4}), ("is_even", {"web": RING, "colouring": [0] * 4}),
        ("rounds_of", {"web": NET, "colouring": [0] * 6}), ("rounds_of", {"web": RING, "colouring": [0] * 4}),
        ("refined", {"web": RING, "colouring": [0] * 4}), ("refined", {"web": NET, "colouring": [0] * 6}),
        ("refined", {"web": RING, "colouring": [3, 1, 0, 2]}), ("singled", {"web": RING, "colouring": [0] * 4, "part": 2}),
        ("singled", {"web": RING, "colouring": [3, 1, 0, 2], "part": 2}),
        ("apart_after", {"web": ROW, "colouring": [0] * 6, "a": 0, "b": 2}),
        ("unfolding", {"web": NET, "colouring": [0] * 6, "part": 1, "many": 2}),
    ],
    "coarsest": [
        ("coarsest_even", {"web": NET, "colouring": [0] * 6}), ("finer_many", {"colouring": [0, 0, 1]}),
        ("first_odd", {"web": NET, "colouring": [0] * 6}), ("table_of", {"web": RING, "colouring": [0] * 4}),
        ("card_of", {"web": NET}),
    ],
    "worklists": [
        ("even_cells", {"web": NET, "colouring": [0] * 6}), ("refined_fast", {"web": RING, "colouring": [0] * 4}),
        ("coloured", {"web": RING, "colouring": [0] * 4, "parted": [[0, 1, 2, 3]]}),
        ("singled_fast", {"web": RING, "colouring": [0] * 4, "part": 3}),
    ],
    "pairings": [
        ("all_numberings", {"many": 3}), ("all_pairings", {"web": RING, "other": RING}),
        ("by_colours", {"web": RING, "other": RING}), ("first_pairing", {"web": NET, "other": NET}),
    ],
    "leastforms": [
        ("least_of_all", {"web": NET}), ("least_by_parts", {"web": NET}), ("least_numberings", {"web": RING}),
        ("all_alike", {"web": STAR}), ("invariants", {"web": NET}), ("parted_by", {"web": NET, "other": ROW}),
    ],
    "paths": [
        ("is_path", {"web": NET, "value": [1, 0]}), ("is_tree_path", {"web": RING, "value": [1]}),
        ("colouring_at", {"web": RING, "path": []}), ("cells_at", {"web": RING, "path": [1]}),
        ("trace_at", {"web": RING, "path": [1]}), ("traces_to", {"web": RING, "path": [1, 2]}),
        ("is_leaf", {"web": RING, "path": [1]}), ("target_at", {"web": RING, "path": [1]}),
        ("branches_at", {"web": RING, "path": [1]}), ("first_leaf", {"web": RING, "path": [1]}),
        ("first_leaf", {"web": RING, "path": [1, 0]}), ("path_led", {"path": [1, 0], "numbering": TURN}),
    ],
    "fulltree": [
        ("leaves_below", {"web": RING, "path": [1]}), ("leaves_below", {"web": RING, "path": [1, 0]}),
        ("leaves", {"web": RING}), ("leaf_web", {"web": RING, "path": [1, 0]}),
        ("key_of_leaf", {"web": RING, "path": [1, 0]}), ("least_key", {"web": RING, "path": []}),
        ("best_leaves", {"web": RING, "path": [1]}), ("best_leaves", {"web": RING, "path": [1, 0]}),
        ("key_counts", {"web": HANDED}), ("tree_profile", {"web": PATCH}),
        ("leaf_with", {"web": RING, "numbering": [0, 1, 3, 2]}),
        ("leaf_symmetry", {"web": RING, "path": [1, 0], "far": [2, 3]}),
    ],
    "names": [
        ("form", {"web": NET}), ("name", {"web": NET}), ("pointed_form", {"web": RING, "path": [2]}),
        ("pointed_name", {"web": RING, "path": [2]}), ("numbering_to_form", {"web": NET}),
        ("pairing_by_forms", {"web": RING, "other": RING}), ("is_alike", {"web": RING, "other": NET}),
        ("is_form", {"web": NET}),
    ],
    "prune": [
        ("kept_orbit", {"numberings": [TURN, FLIP], "path": [0], "part": 1}),
        ("led", {"many": 4, "numberings": [TURN, FLIP], "path": [], "first": 0, "second": 1}),
        ("led", {"many": 4, "numberings": [TURN], "path": [], "first": 1, "second": 1}),
        ("spared_at", {"numberings": [TURN, FLIP], "path": [0, 3], "start": 0}),
        ("is_later", {"traces": [[3], [1, 2]], "best": [[3], [1, 1, 1]]}),
    ],
    "search": [
        ("searched", {"web": RING, "path": []}), ("searched", {"web": RING, "path": [1, 0]}), ("quick_form", {"web": NET}),
        ("quick_pointed", {"web": RING, "path": [2]}), ("quick_name", {"web": NET}), ("quick_numbering", {"web": NET}),
        ("quick_numbering", {"web": RING}), ("quick_pairing", {"web": RING, "other": RING}),
    ],
    "namepapers": [
        ("paper_fault", {"web": RING, "path": [], "form": RING, "value": ([0, 1], [("leaf",)])}),
        ("is_pointed_paper", {"web": RING, "path": [1], "form": RING, "value": ([1, 0], [("split",), ("leaf",)])}),
        ("is_name_paper", {"web": RING, "form": RING, "value": ([1, 0], [("split",), ("like", 0, [1, 0, 3, 2])])}),
        ("pointed_paper", {"web": RING, "path": [1]}), ("pointed_paper", {"web": RING, "path": [1, 0]}),
        ("name_paper", {"web": PATCH}), ("plain_paper", {"web": RING, "path": [1]}),
    ],
    "levels": [
        ("view", {"web": NET, "path": [1]}), ("settled_hand", {"web": NET, "path": [1], "part": 1}),
        ("settled_sides", {"web": NET, "path": [1], "a": 2, "b": 1}),
        ("leading", {"web": RING, "path": [0], "other": RING, "way": [1]}),
        ("apart_tree", {"web": HANDED, "path": [1, 2], "other": HANDED, "way": [2, 1]}),
        ("is_apart_tree", {"web": HANDED, "path": [1], "other": HANDED, "way": [2], "value": ("split", [("view",)] * 3)}),
        ("level_path", {"web": RING, "path": [1]}), ("level_path", {"web": RING, "path": [1, 0]}),
    ],
    "symmetric": [
        ("orbit_at", {"web": RING, "path": [1], "part": 0}), ("keeping_count", {"web": RING, "path": [1]}),
        ("symmetry_count", {"web": RING}), ("symmetries", {"web": RING}), ("all_symmetries", {"web": RING}),
        ("all_symmetries", {"web": NET}), ("symmetries_by_leaves", {"web": RING}), ("part_orbits", {"web": RING}),
        ("tie_orbits", {"web": RING}), ("numbering_count", {"web": RING}),
    ],
    "sympapers": [
        ("symmetry_paper", {"web": PATCH}), ("is_symmetry_paper", {"web": SWAP, "value": SWAPS}),
        ("paper_count", {"value": SWAPS}), ("sifted", {"web": SWAP, "value": SWAPS, "numbering": [1, 0]}),
        ("from_choices", {"web": SWAP, "value": SWAPS, "choices": [1]}),
        ("from_choices", {"web": SWAP, "value": SWAPS, "choices": [0]}),
    ],
    "handed": [
        ("seats", {"web": NET}), ("own_setting", {"web": NET}), ("is_setting", {"web": NET, "value": [1, 1, -1]}),
        ("put_setting", {"web": NET, "setting": [1, 1, -1]}), ("contrary", {"web": NET, "setting": [1, 1, -1]}),
        ("put_hand", {"web": NET, "part": 0, "sign": 1}), ("put_side", {"web": NET, "a": 1, "b": 2, "sign": -1}),
        ("is_own_mirror", {"web": NET}), ("mirror_pairing", {"web": HANDED}), ("counts_hand", {"web": NET, "part": 1}),
        ("counts_side", {"web": NET, "a": 1, "b": 2}), ("hand_choices", {"web": NET}), ("side_choices", {"web": NET}),
    ],
    "loose": [
        ("is_loose", {"web": HANDED, "value": [0, 2, 1, 3, 4]}), ("loose_symmetries", {"web": HANDED}),
        ("move_of", {"web": HANDED, "numbering": [0, 2, 1, 3, 4]}),
        ("led_setting", {"move": ([1, 0], [1, -1]), "setting": [1, 1]}), ("moves", {"web": HANDED}),
        ("counts_by_moves", {"web": HANDED, "seat": ("hand", 0)}), ("is_own_mirror_by_moves", {"web": HANDED}),
    ],
    "settings": [
        ("all_settings", {"web": NET}), ("settings", {"web": NET}), ("setting_class", {"web": NET, "setting": [1, 1, -1]}),
        ("least_settings", {"web": NET}), ("setting_count", {"web": NET}), ("mirror_counts", {"web": NET}),
        ("mirror_pairs", {"web": NET}), ("own_mirror_settings", {"web": NET}), ("own_mirror_settings", {"web": HANDED}),
    ],
    "centres": [
        ("is_tree_shaped", {"web": ROW}), ("plain_centres", {"web": ROW, "part": 1}), ("centres", {"web": ROW, "part": 1}),
    ],
    "lays": [
        ("parents", {"web": ROW, "root": 2}), ("lay_count", {"web": ROW, "root": 2}), ("lays", {"web": ROW, "root": 2}),
        ("lay_code", {"web": ROW, "root": 2, "lay": [[], [], [1, 0, 3], [4, 5], [], []]}),
        ("plain_code", {"web": ROW, "root": 2}), ("plain_count", {"web": ROW, "root": 2}),
    ],
    "treecodes": [
        ("rooted_code", {"web": ROW, "root": 2}), ("rooted_count", {"web": ROW, "root": 2}), ("least_lay", {"web": ROW, "root": 2}),
        ("tree_code", {"web": ROW, "part": 0}), ("web_code", {"web": ROW}), ("tree_symmetry_count", {"web": ROW}),
    ],
    "treenames": [
        ("laid_out", {"codes": [("k", 0, [("a", 0, 1, [], 0, 0), ("a", 0, 2, [("b", 0, 1, [], 0, 0)], 0, 1)], 0)]}),
        ("tree_name", {"web": ROW}), ("tree_form", {"web": ROW}), ("tree_numbering", {"web": ROW}),
        ("tree_pairing", {"web": ROW, "other": ROW}), ("is_tree_name", {"value": "k0(1k0)"}), ("read_tree_name", {"value": "k0(1k0)"}),
    ],
    "patterns": [
        ("is_pattern", {"value": PAIR}), ("pattern_of", {"web": NET}), ("renumbered_pattern", {"pattern": PAIR, "numbering": [1, 0]}),
        ("renumbered_pattern", {"pattern": PAIR, "numbering": [0, 1]}),
        ("loosened", {"pattern": PAIR, "kinds": True, "marks": False, "orders": True, "senses": False}),
        ("loosened", {"pattern": HAND, "kinds": False, "marks": False, "orders": False, "senses": False}),
        ("is_match", {"pattern": PAIR, "web": NET, "value": [0, 1]}), ("candidates", {"pattern": PAIR, "web": NET}),
        ("do_fit", {"pattern": PAIR, "web": NET, "a": 0, "x": 3, "b": 1, "y": 2}),
        ("narrowed", {"pattern": PAIR, "web": NET, "table": [[0, 1, 2, 3, 4, 5], [4]]}),
        ("narrowed", {"pattern": PAIR, "web": NET, "table": [[0, 1], [0, 1]]}),
    ],
    "matching": [
        ("matches", {"pattern": PAIR, "web": NET, "held": [(0, 1)]}), ("matches", {"pattern": HAND, "web": STAR, "held": ()}),
        ("matches_plain", {"pattern": PAIR, "web": NET}), ("table_count", {"pattern": PAIR, "web": NET, "held": ((0, 1),)}),
    ],
    "nomatch": [
        ("no_match", {"pattern": HAND, "web": NET}), ("no_match", {"pattern": HAND, "web": ([K] * 3, [], [], [])}),
        ("is_no_match", {"pattern": PAIR, "web": SWAP, "value": ([(0, 0, 1), (0, 1, 1)], ("gone", 0))}),
    ],
    "least": [
        ("least_match", {"pattern": PAIR, "web": NET}), ("held_places", {"pattern": PAIR, "web": NET}),
        ("covered", {"pattern": PAIR, "web": NET}), ("match_classes", {"pattern": PAIR, "web": RING}),
        ("list_key", {"web": RING, "path": [1, 3]}),
    ],
    "common": [
        ("is_common", {"web": RING, "other": STAR, "joined": False, "value": []}), ("is_joined", {"web": RING, "parts": [2, 0]}),
        ("all_common", {"web": RING, "other": STAR, "joined": False}), ("all_common", {"web": RING, "other": RING, "joined": True}),
        ("plain_size", {"web": RING, "other": RING, "joined": True}),
    ],
    "bounds": [
        ("part_class", {"web": RING, "parts": [1, 2], "part": 3}), ("class_bound", {"web": RING, "other": RING, "pairs": [(0, 1)], "many": 2}),
        ("kind_bound", {"web": RING, "other": STAR}), ("is_apart", {"web": RING, "pairs": [(0, 0), (2, 2)], "many": 4}),
        ("left_candidates", {"web": RING, "other": RING, "pairs": [(0, 1)], "many": 2}),
        ("greatest_common", {"web": RING, "other": NET, "joined": True}), ("common_size", {"web": RING, "other": NET, "joined": False}),
        ("distance_between", {"web": RING, "other": NET}),
    ],
    "commonpapers": [
        ("no_greater_tree", {"web": RING, "other": NET, "joined": True, "most": 3}),
        ("is_no_greater", {"web": RING, "other": RING, "joined": True, "most": 4, "value": ("bound",)}),
        ("greatest_paper", {"web": RING, "other": NET, "joined": True}),
        ("is_greatest_paper", {"web": SWAP, "other": SWAP, "joined": False, "value": ([(0, 0), (1, 1)], ("bound",))}),
    ],
    "deeds": [
        ("is_deed", {"value": ("hand", 0, [1, 2, 3], 1)}), ("can_do", {"web": STAR, "deed": ("hand", 0, [1, 2, 3], 1)}),
        ("done", {"web": STAR, "deed": ("hand", 0, [2, 1, 3], 1)}), ("done", {"web": NET, "deed": ("mark", 0, 0)}),
        ("done", {"web": NET, "deed": ("drop", 5)}), ("done", {"web": NET, "deed": ("put", 2, "a", 0)}),
        ("done", {"web": NET, "deed": ("order", 0, 1, 1)}), ("done", {"web": NET, "deed": ("flat", 2, 1)}),
        ("done", {"web": NET, "deed": ("bare", 1)}), ("done", {"web": NET, "deed": ("side", 1, 2, 0, 0, 1)}),
        ("done_all", {"web": NET, "deeds": [("drop", 0), ("put", 0, "a", 0)]}), ("done_all", {"web": NET, "deeds": []}),
        ("lost", {"web": NET, "deed": ("drop", 0)}), ("lost", {"web": NET, "deed": ("mark", 0, 3)}),
        ("renumbered_deed", {"deed": ("hand", 0, [1, 2, 3], 1), "numbering": TURN}),
        ("renumbered_deed", {"deed": ("put", 0, "a", 0), "numbering": TURN}),
        ("numbering_behind", {"deed": ("put", 0, "a", 0), "numbering": TURN}), ("numbering_behind", {"deed": ("mark", 0, 1), "numbering": TURN}),
        ("back_row", {"web": NET, "deed": ("drop", 0)}), ("row_between", {"web": NET, "other": STAR}),
        ("leads", {"web": NET, "other": NET, "value": []}),
    ],
    "rules": [
        ("is_rule", {"value": RULE}), ("applied", {"web": STAR, "rule": RULE, "match": [0]}),
        ("applied", {"web": STAR, "rule": (PAIR, []), "match": [0, 1]}), ("results", {"web": STAR, "rule": RULE}),
        ("reached", {"web": STAR, "rule": RULE, "many": 1}),
    ],
    "families": [
        ("all_choices", {"parts": [K, K, ("a", 0)], "orders": [1]}), ("all_choices", {"parts": [], "orders": []}),
        ("plain_family", {"parts": [K, K], "orders": [1, 2], "is_whole": False}), ("grown", {"web": SWAP, "part": K, "orders": [1, 3]}),
        ("family", {"parts": [("b", 0), K, K], "orders": [1], "is_whole": True}), ("family", {"parts": [], "orders": [], "is_whole": True}),
        ("is_of_family", {"parts": [K, K], "orders": [], "is_whole": False, "web": SWAP}),
    ],
    "counted": [
        ("cycle_kinds", {"many": 4}), ("cycle_kinds", {"many": 0}), ("pair_cycles", {"lengths": [3, 1]}),
        ("family_count", {"parts": [K, K], "orders": [1]}), ("plain_family_count", {"parts": [K, K], "orders": [1]}),
        ("family_row", {"parts": [K, K], "orders": [1]}), ("whole_count", {"parts": [K, K], "orders": [1]}),
    ],
    "library": [
        ("plain_same", {"rows": [("b", NET), ("a", NET)], "web": NET}), ("plain_bare_same", {"rows": [("b", NET), ("a", ROW)], "web": NET}),
        ("plain_mirror_same", {"rows": [("b", STAR), ("a", NET)], "web": STAR}),
        ("plain_with_pattern", {"rows": [("b", STAR), ("a", NET)], "pattern": PAIR}),
    ],
    "judging": [
        ("is_question", {"value": ("led", RING, 0, 1)}), ("is_yes_paper", {"question": ("led", RING, 0, 1), "value": TURN}),
        ("is_no_paper", {"question": ("joined", SWAP, 0, 1), "value": [0]}),
        ("is_answer", {"question": ("rings", STAR, []), "value": ("yes", [])}),
        ("is_unlike_paper", {"web": RING, "other": STAR, "value": ("word", "parts")}), ("is_description", {"web": RING, "value": None}),
        ("is_kin_paper", {"webs": [SWAP, SWAP], "value": [("first", SWAP, ([0], [("split",), ("leaf",), ("leaf",)])), ("like", 0, [1, 0])]}),
    ],
    "answering": [
        ("plain_truth", {"question": ("symmetries", RING, 8)}), ("answer", {"question": ("alike", RING, STAR)}),
        ("answer", {"question": ("alike", RING, RING)}), ("answer", {"question": ("name", PATCH, "")}),
        ("answer", {"question": ("led", PATCH, 0, 4)}), ("answer", {"question": ("symmetries", PATCH, 48)}),
        ("answer", {"question": ("rings", PATCH, [3, 4])}), ("answer", {"question": ("joined", PATCH, 0, 4)}),
        ("answer", {"question": ("joined", PATCH, 0, 2)}), ("answer", {"question": ("match", PAIR, NET)}),
        ("answer", {"question": ("match", HAND, RING)}), ("answer", {"question": ("common", RING, RING, True, 2)}),
        ("answer", {"question": ("common", RING, STAR, True, 3)}), ("answer", {"question": ("own mirror", NET)}),
        ("answer", {"question": ("hand", NET, 1)}), ("compare", {"web": HANDED, "other": HANDED}),
        ("unlike_papers", {"web": NET, "other": ROW}), ("unlike_papers", {"web": NET, "other": NET}), ("describe", {"web": PATCH}),
        ("told_by", {"description": ("", ([], [("leaf",)]), [], [([0, 1, 2], [0])], ("yes", []))}), ("kin_paper", {"webs": [RING, STAR, RING]}),
        ("kin_lists", {"value": [("first", SWAP, ([0], [("split",), ("leaf",), ("leaf",)])), ("like", 0, [1, 0])]}),
    ],
    "commands": [
        ("is_named_question", {"value": ("led", "a", 0, 1)}), ("is_command", {"value": ("undo",)}), ("is_desk_deed", {"value": ("drop", "a")}),
        ("names_in", {"question": ("match", PAIR, "a")}), ("filled", {"question": ("match", PAIR, "a"), "webs": [NET]}),
        ("filled", {"question": ("rings", "a", [3]), "webs": [NET]}), ("asks_numbers", {"question": ("led", "a", 0, 1)}),
    ],
}

# Each class with its parameters, as the interface has them, and with its methods and theirs; properties stand behind them.
CLASSES = {
    "worklists": ("Parting", {"web": NET, "colouring": [0] * 6}, {"step": [], "cell_list": []}, ["is_done", "many"]),
    "search": ("Search", {"web": RING, "path": [], "most": 100},
               {"turn": [], "best": [], "found": [], "waiting": [], "nodes": [], "has_ended": []}, []),
    "matching": ("Sieve", {"pattern": PAIR, "web": NET},
                 {"row": ["a"], "can_go": ["a", "x", "b"], "take": ["a", "x", "b"], "hold": ["a", "x"], "narrow": [], "twin": []},
                 ["many", "is_closed", "is_single"]),
    "keeper": ("Keeper", {"web": PATCH},
               {"part_of": ["given"], "do": ["deed"], "undo": [], "redo": [], "pieces": [], "piece_name": ["part"], "piece_names": [],
                "known": [], "name": []}, ["first", "now", "deeds", "ids"]),
    "library": ("Library", {},
                {"add": ["web", "label"], "take_out": ["label"], "web_of": ["label"], "rows": [], "same": ["web"], "bare_same": ["web"],
                 "mirror_same": ["web"], "with_pattern": ["pattern"], "classes": []}, []),
    "desk": ("Desk", {},
             {"do": ["command"], "do_all": ["commands"], "attempt": ["commands"], "web": ["name"], "note": ["label"], "status": ["label"],
              "statement": ["label"]}, ["names", "labels", "shelf", "log"]),
}


# Methods that change the object or raise errors while nothing was done; the tests of these classes look at them.
CHANGING = ("undo", "redo", "twin")


def positions(function, given):
    """The arguments by position, and those that are passed by keyword only."""
    kinds = inspect.signature(function).parameters
    only = {name: value for name, value in given.items() if kinds[name].kind is inspect.Parameter.KEYWORD_ONLY}
    return [value for name, value in given.items() if name not in only], only


def each_call():
    for name, calls in CALLS.items():
        module = importlib.import_module("webnames." + name)
        for function, given in calls:
            yield getattr(module, function), given


class Calls(unittest.TestCase):
    def test_defined_where_the_interface_lists_it(self):
        for name, calls in CALLS.items():
            for function, given in calls:
                found = getattr(importlib.import_module("webnames." + name), function)
                self.assertEqual(found.__module__, "webnames." + name)
                self.assertEqual(list(inspect.signature(found).parameters), list(given))

    def test_by_position_and_by_name(self):
        for function, given in each_call():
            values, only = positions(function, given)
            by_position = function(*values, **only)
            self.assertTrue(same_kinds(by_position, function(**given)), function)
            self.assertTrue(same_kinds(by_position, function(**dict(reversed(list(given.items()))))), function)

    def test_arguments_stay(self):
        for function, given in each_call():
            before = copy.deepcopy(given)
            function(**given)
            for name in given:
                self.assertTrue(same_kinds(given[name], before[name]), function)

    def test_returned_lists_are_new(self):
        for function, given in each_call():
            given = copy.deepcopy(given)
            held = [id(x) for value in given.values() for x in lists_in(value)]
            first, second = function(**given), function(**given)
            # All of them are alive, so no two that are unlike share a number.
            returned = [id(x) for result in (first, second) for x in lists_in(result)]
            self.assertEqual(len(set(returned)), len(returned), function)
            self.assertFalse(set(returned) & set(held), function)

    def test_a_changed_result_changes_no_later_one(self):
        for function, given in each_call():
            expected = copy.deepcopy(function(**given))
            for found in lists_in(function(**given)):
                found.append("more")
            self.assertTrue(same_kinds(function(**given), expected), function)

    def test_questions_return_bools(self):
        for function, given in each_call():
            name = function.__name__
            questions = ("paper_has", "keeps_sequence", "counts_hand", "counts_side", "counts_by_moves", "do_fit", "leads",
                         "asks_numbers", "plain_truth")
            if name.startswith(("is_", "has_", "can_")) or name in questions:
                self.assertIs(type(function(**given)), bool)
            else:
                self.assertNotIsInstance(function(**given), bool)

    def test_the_numbers_of_the_webs_here(self):
        self.assertEqual(ring_rank(NET), 2)


class Classes(unittest.TestCase):
    def test_defined_as_listed(self):
        for name, (title, given, methods, properties) in CLASSES.items():
            found = getattr(importlib.import_module("webnames." + name), title)
            self.assertEqual(found.__module__, "webnames." + name)
            self.assertEqual(list(inspect.signature(found).parameters), list(given))
            for method, names in methods.items():
                self.assertTrue(inspect.isfunction(vars(found)[method]))
                self.assertEqual(list(inspect.signature(vars(found)[method]).parameters), ["self"] + names)
            for attribute in properties:
                self.assertIsInstance(vars(found)[attribute], property)

    def test_arguments_stay_and_results_are_new(self):
        for name, (title, given, methods, properties) in CLASSES.items():
            found = getattr(importlib.import_module("webnames." + name), title)
            before = copy.deepcopy(given)
            one, two = found(**given), found(*given.values())
            told = []
            for _ in range(12):
                for method in [method for method, names in methods.items() if not names and method not in CHANGING]:
                    first, second = getattr(one, method)(), getattr(two, method)()
                    self.assertTrue(same_kinds(first, second), method)
                    told += lists_in(first) + lists_in(second)
                for attribute in properties:
                    self.assertTrue(same_kinds(getattr(one, attribute), getattr(two, attribute)))
            held = lists_in(tuple(given.values()))
            self.assertEqual(len({id(x) for x in told + held}), len(told) + len({id(x) for x in held}))
            self.assertTrue(all(same_kinds(given[x], before[x]) for x in given))


class Sequence(unittest.TestCase):
    def test_invalid_many_goes_first(self):
        for function, given in each_call():
            if "many" in given and function.__name__ not in ("is_colouring", "led", "class_bound", "is_apart", "left_candidates"):
                # With other arguments in which a later look would find a fault.
                for many in (25, -1, True, None, "4"):
                    rest = {name: [[9, 9]] if name in ("numberings", "rows", "value") else value
                            for name, value in given.items() if name != "many"}
                    with self.assertRaises(InvalidMany) as caught:
                        function(many=many, **rest)
                    self.assertTrue(same_kinds(caught.exception.value, many))


if __name__ == "__main__":
    unittest.main()
