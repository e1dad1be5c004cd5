"""[2] for each function of the interface: arguments, results, repeated calls, and the sequence of errors."""

import copy
import importlib
import inspect
import unittest

from tests.helper import lists_in, same_kinds
from webnames.errors import InvalidMany
from webnames.rings import ring_rank

K = ("k", 0)
STAR = ([K, ("a", 0), ("b", 1), ("a", 0)], [(0, 1, 1), (0, 2, 1), (0, 3, 1)], [(0, 1)], [])
ROW = ([K] * 6, [(0, 2, 1), (1, 2, 1), (2, 3, 2), (3, 4, 1), (3, 5, 1)], [], [(2, 3, -1)])
NET = ([K] * 6, [(0, 1, 1), (0, 2, 1), (1, 2, 2), (1, 3, 1), (2, 3, 1), (3, 4, 1)], [(1, 1), (3, -1)], [(1, 2, 1)])
TURN, FLIP = [1, 2, 3, 0], [0, 3, 2, 1]
PAPER = ([("stay",), ("given", 0), ("then", 1, 1)], [[(0, 0), (1, 1), (2, 2)], [(1, 0)], [(2, 0)]])
TEXT = "a: k; b: n -1; c: k; d: k; a 1 b; a 1 c; a 1 d; a hand + d c b # x"

# Each function with its parameters' names as the interface has them, and arguments to try.
CALLS = {
    "basics": [
        ("is_integer", {"value": 3}), ("is_count", {"value": 3}), ("is_sign", {"value": -1}),
        ("ranked", {"keys": [[3], [1], [3]]}),
    ],
    "webs": [
        ("is_part", {"value": K}), ("is_web", {"value": NET}), ("neighbours", {"web": NET, "part": 1}),
        ("ties_of", {"web": NET, "part": 1}), ("further", {"web": NET, "part": 1, "other": 2}),
        ("tie_order", {"web": NET, "a": 2, "b": 1}), ("has_hand", {"web": NET, "part": 1}),
        ("has_sides", {"web": NET, "a": 2, "b": 1}), ("can_bear_hand", {"web": NET, "part": 0}),
        ("can_bear_sides", {"web": NET, "a": 2, "b": 1}), ("hand_at", {"web": NET, "part": 1, "sequence": [3, 0, 2]}),
        ("side_at", {"web": NET, "a": 1, "b": 2, "x": 3, "y": 0}),
        ("made", {"parts": STAR[0], "ties": [(3, 0, 1), (0, 1, 1), (2, 0, 1)], "hands": [(0, [3, 1, 2], 1)], "sides": []}),
        ("made", {"parts": [], "ties": [], "hands": [], "sides": []}),
    ],
    "numberings": [
        ("is_numbering", {"value": [1, 0], "many": 2}), ("straight", {"many": 4}),
        ("then", {"first": TURN, "second": FLIP}), ("back", {"numbering": TURN}),
        ("sign_by_pairs", {"numbers": [5, -3, 9]}), ("sign_of", {"numbers": [5, -3, 9]}), ("rounds", {"numbering": FLIP}),
        ("exchanges", {"numbering": TURN}), ("renumbered", {"web": STAR, "numbering": TURN}),
        ("renumbered", {"web": NET, "numbering": [0, 1, 2, 3, 4, 5]}), ("carried", {"web": STAR, "numbering": TURN}),
        ("carried", {"web": ROW, "numbering": [0, 1, 2, 3, 4, 5]}),
        ("is_pairing", {"web": STAR, "other": STAR, "value": [0, 1, 2, 3]}),
    ],
    "mirrors": [
        ("mirror", {"web": NET}), ("bare", {"web": NET}), ("bare", {"web": ([K], [], [], [])}),
        ("turned_hand", {"web": NET, "part": 1}), ("turned_side", {"web": NET, "a": 2, "b": 1}),
        ("hand_parts", {"web": NET}), ("side_ties", {"web": NET}), ("signs", {"web": NET}),
        ("with_signs", {"web": NET, "hands": [1, 1], "sides": [-1]}),
    ],
    "perms": [
        ("compose", {"many": 4, "numberings": [TURN]}), ("compose", {"many": 4, "numberings": []}),
        ("shape", {"numbering": TURN}), ("order_of", {"numbering": TURN}), ("powers", {"numbering": TURN}),
        ("power", {"numbering": TURN, "exponent": 1}), ("from_rounds", {"many": 4, "rows": [[3, 1], []]}),
        ("conjugate", {"numbering": TURN, "by": [0, 1, 2, 3]}), ("conjugator", {"first": TURN, "second": [3, 0, 1, 2]}),
    ],
    "closing": [
        ("plain_group", {"many": 4, "numberings": [TURN, FLIP]}),
        ("word", {"many": 4, "numberings": [TURN, FLIP], "numbering": TURN}),
        ("is_group", {"many": 2, "value": [[0, 1], [1, 0]]}),
    ],
    "orbits": [
        ("orbit_of", {"many": 4, "numberings": [FLIP], "part": 1}), ("orbits", {"many": 4, "numberings": [FLIP]}),
        ("orbit_paths", {"many": 4, "numberings": [TURN, FLIP], "part": 1}),
        ("row_orbit", {"many": 4, "numberings": [FLIP], "row": [1, 2]}),
        ("row_orbit", {"many": 4, "numberings": [], "row": [1, 2]}),
        ("pair_orbits", {"many": 4, "numberings": [FLIP]}), ("orbit_count", {"many": 4, "numberings": [FLIP]}),
        ("paintings", {"many": 4, "numberings": [FLIP], "most": 2}),
        ("painting_count", {"many": 4, "numberings": [FLIP], "most": 2}),
    ],
    "chains": [
        ("group_paper", {"many": 4, "numberings": [TURN, FLIP]}), ("group_paper", {"many": 4, "numberings": []}),
        ("is_group_paper", {"many": 3, "numberings": [[1, 2, 0]], "value": PAPER}),
        ("paper_has", {"many": 3, "numberings": [[1, 2, 0]], "paper": PAPER, "numbering": [2, 0, 1]}),
        ("group_order", {"many": 4, "numberings": [TURN, FLIP]}),
        ("is_in", {"many": 4, "numberings": [TURN], "numbering": FLIP}),
        ("steps_to", {"many": 4, "numberings": [TURN, FLIP], "numbering": FLIP}),
        ("is_steps", {"many": 3, "numberings": [[1, 2, 0]], "numbering": [2, 0, 1], "value": [("given", 0), ("back", 0)]}),
    ],
    "members": [
        ("all_members", {"many": 4, "numberings": [TURN, FLIP]}), ("all_members", {"many": 4, "numberings": []}),
        ("member_at", {"many": 4, "numberings": [TURN, FLIP], "place": 3}),
        ("place_of", {"many": 4, "numberings": [TURN, FLIP], "numbering": TURN}),
        ("keeping", {"many": 4, "numberings": [TURN, FLIP], "parts": [0]}),
        ("keeping_order", {"many": 4, "numberings": [TURN, FLIP], "parts": [0]}),
        ("least_row", {"many": 4, "numberings": [TURN], "row": [3, 1, 3]}),
        ("leads_to", {"many": 4, "numberings": [TURN], "row": [3, 1], "other": [0, 2]}),
    ],
    "pieces": [
        ("pieces", {"web": NET}), ("merged_pieces", {"web": NET}), ("piece_web", {"web": NET, "parts": [0, 1, 2, 3]}),
        ("put_together", {"webs": [NET]}), ("put_together", {"webs": [STAR, STAR]}), ("piece_numbering", {"web": NET}),
    ],
    "ways": [
        ("is_way", {"web": NET, "value": [0, 1]}), ("distances", {"web": NET, "part": 0}), ("all_distances", {"web": NET}),
        ("least_way", {"web": NET, "first": 0, "last": 4}), ("bridges", {"web": NET}), ("bridges_walk", {"web": NET}),
        ("cut_parts", {"web": NET}), ("cut_parts_walk", {"web": NET}), ("blocks", {"web": NET}),
        ("blocks_walk", {"web": NET}),
    ],
    "rings": [
        ("is_ring", {"web": NET, "value": [0, 1, 2]}), ("is_tie_set", {"web": NET, "value": [0, 2]}),
        ("ring_form", {"parts": [0, 1, 2]}), ("ring_form", {"parts": [2, 1, 0]}),
        ("ring_ties", {"web": NET, "ring": [0, 1, 2]}), ("ring_of", {"web": NET, "tie_set": [0, 1, 2]}),
        ("rings_to", {"web": NET, "many": 24}), ("rings_plain", {"web": NET, "many": 24}), ("ring_rank", {"web": NET}),
        ("ring_through", {"web": NET, "place": 0}),
    ],
    "bases": [
        ("sum_of", {"first": [0, 1], "second": []}), ("is_odd", {"first": [0, 1], "second": [1]}),
        ("is_independent", {"web": NET, "rings": [[0, 1, 2], [1, 2, 3]]}),
        ("as_sum", {"web": NET, "rings": [[0, 1, 2], [1, 2, 3]], "tie_set": [0, 1, 3, 4]}), ("plain_base", {"web": NET}),
        ("odd_ring", {"web": NET, "tie_set": [0]}), ("base_paper", {"web": NET}),
        ("is_base_paper", {"web": NET, "value": [([0, 1, 2], [0]), ([1, 2, 3], [4])]}), ("ring_base", {"web": NET}),
        ("is_ring_base", {"web": NET, "value": [[1, 2, 3], [0, 1, 2]]}), ("ring_lengths", {"web": NET}),
    ],
    "words": [("is_part_name", {"value": "a"}), ("own_names", {"many": 3}), ("tokens", {"text": TEXT})],
    "reader": [
        ("statements", {"text": TEXT}), ("read_web", {"text": TEXT}), ("is_web_text", {"value": TEXT}),
        ("text_pairing", {"first": TEXT, "second": TEXT}),
    ],
    "writer": [
        ("statement_texts", {"web": STAR, "names": ["a", "b", "c", "d"]}),
        ("write_web", {"web": STAR, "names": ["a", "b", "c", "d"]}), ("name_text", {"web": NET}),
        ("read_name", {"text": "p0: c; p1: c; p0 1 p1"}), ("is_name_text", {"value": "p0: c"}), ("tidy_text", {"text": TEXT}),
    ],
    "keys": [
        ("is_colouring", {"many": 2, "value": [0, 1]}), ("part_key", {"web": NET, "part": 1}),
        ("first_colouring", {"web": NET}), ("cells_of", {"colouring": [1, 0, 1]}), ("trace_of", {"colouring": [1, 0, 1]}),
        ("is_discrete", {"colouring": [1, 0]}), ("is_finer", {"colouring": [1, 0], "other": [0, 0]}),
        ("keeps_sequence", {"colouring": [1, 0], "other": [0, 0]}),
        ("colouring_led", {"colouring": [1, 0], "numbering": [0, 1]}),
    ],
}


def each_call():
    for name, calls in CALLS.items():
        module = importlib.import_module("webnames." + name)
        for function, given in calls:
            yield getattr(module, function), given


class Calls(unittest.TestCase):
    def test_defined_where_the_interface_lists_it(self):
        for name, calls in CALLS.items():
            for function, given in calls:
                found = getattr(importlib.import_module("webnames." + name), function)
                self.assertEqual(found.__module__, "webnames." + name)
                self.assertEqual(list(inspect.signature(found).parameters), list(given))

    def test_by_position_and_by_name(self):
        for function, given in each_call():
            by_position = function(*given.values())
            self.assertTrue(same_kinds(by_position, function(**given)), function)
            self.assertTrue(same_kinds(by_position, function(**dict(reversed(list(given.items()))))), function)

    def test_arguments_stay(self):
        for function, given in each_call():
            before = copy.deepcopy(given)
            function(**given)
            for name in given:
                self.assertTrue(same_kinds(given[name], before[name]), function)

    def test_returned_lists_are_new(self):
        for function, given in each_call():
            given = copy.deepcopy(given)
            held = [id(x) for value in given.values() for x in lists_in(value)]
            first, second = function(**given), function(**given)
            # All of them are alive, so no two that are unlike share a number.
            returned = [id(x) for result in (first, second) for x in lists_in(result)]
            self.assertEqual(len(set(returned)), len(returned), function)
            self.assertFalse(set(returned) & set(held), function)

    def test_a_changed_result_changes_no_later_one(self):
        for function, given in each_call():
            expected = copy.deepcopy(function(**given))
            for found in lists_in(function(**given)):
                found.append("more")
            self.assertTrue(same_kinds(function(**given), expected), function)

    def test_questions_return_bools(self):
        for function, given in each_call():
            name = function.__name__
            if name.startswith(("is_", "has_", "can_")) or name in ("paper_has", "keeps_sequence"):
                self.assertIs(type(function(**given)), bool)
            else:
                self.assertNotIsInstance(function(**given), bool)

    def test_the_numbers_of_the_webs_here(self):
        self.assertEqual(ring_rank(NET), 2)


class Sequence(unittest.TestCase):
    def test_invalid_many_goes_first(self):
        for function, given in each_call():
            if "many" in given and function.__name__ != "is_colouring":
                # With other arguments in which a later look would find a fault.
                for many in (25, -1, True, None, "4"):
                    rest = {name: [[9, 9]] if name in ("numberings", "rows", "value") else value
                            for name, value in given.items() if name != "many"}
                    with self.assertRaises(InvalidMany) as caught:
                        function(many=many, **rest)
                    self.assertTrue(same_kinds(caught.exception.value, many))


if __name__ == "__main__":
    unittest.main()
