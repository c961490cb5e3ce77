"""The interface: where everything is defined, and how its parameters are called."""

import importlib
import inspect
import unittest

INTERFACE = {
    "errors": {
        "PoolError": None, "InvalidBook": "(at)", "InvalidText": "(at)", "InvalidPool": "(at)",
        "InvalidRun": "(at)", "InvalidFormula": "(at)", "InvalidNumber": "(word)", "Refused": "(word)",
    },
    "books": {
        "Book": "(kinds, ways)", "least_ways": "(ways)", "is_harmless": "(ways)", "harm": "(ways)",
        "tidy_book": "(kinds, ways)",
    },
    "flows": {
        "check_widths": "(net, value)", "most_through": "(net, widths)", "through_plan": "(net, widths)",
        "least_cut": "(net, widths)",
    },
    "nets": {
        "Net": "(roads, start, goal)", "all_paths": "(net)", "used_roads": "(net)", "net_book": "(net)",
        "net_formula": "(net)",
    },
    "runs": {
        "check_pool": "(book, value)", "fitting": "(book, pool)", "is_stuck": "(book, pool)",
        "check_run": "(book, pool, run)", "left": "(book, pool, run)", "is_full": "(book, pool, run)",
    },
    "stories": {
        "is_story": "(book, value)", "all_stories": "(book)", "first_story": "(book)",
        "story_pool": "(book, story)",
    },
    "bars": {
        "is_bar": "(book, lot)", "bars": "(book)", "bar_within": "(book, lot)", "short_bar": "(book, pool)",
        "lone_ways": "(book, bar)", "supports": "(book)",
    },
    "boats": {
        "Boat": "(kinds, sizes, room)", "fills": "(boat)", "is_trip": "(boat, crowd, value)",
        "is_even_boat": "(boat)", "split_of": "(boat)", "is_split": "(boat, value)",
        "trips": "(boat, crowd)", "spare": "(boat, crowd)",
    },
    "edits": {
        "is_bundle": "(value)", "bundle_of": "(book, number)", "book_with": "(book, bundle)",
        "book_without": "(book, number)",
    },
    "exchanges": {
        "partner": "(book, way, one, other)", "unpaired_story": "(book, way, one, other)",
        "story_between": "(book, pool, run, other)",
    },
    "formulas": {
        "check_formula": "(value)", "kinds_of": "(formula)", "sizes_of": "(formula)",
        "meeting": "(formula, one, other)", "normal": "(formula)",
    },
    "parts": {"renamed_book": "(book, names)", "lacking": "(book, lot)", "plenty": "(book, lot)"},
    "rows": {
        "span": "(book)", "run_lengths": "(book, pool, *, most=2000)",
        "run_of_length": "(book, pool, length, *, most=2000)", "shortest_run": "(book, pool, *, most=2000)",
        "longest_run": "(book, pool, *, most=2000)", "count_runs": "(book, pool, *, most=2000)",
        "run_at": "(book, pool, number, *, most=2000)", "place_of_run": "(book, pool, run, *, most=2000)",
        "split_pools": "(book)",
    },
    "sessions": {"sessions_of": "(book, demand)", "unserved": "(book, demand, value)"},
    "texts": {"read_book": "(text)", "show_book": "(book)"},
    "clashes": {
        "Clashes": "(jobs, pairs)", "row_of_four": "(clashes)", "is_row_of_four": "(clashes, value)",
        "clash_tree": "(clashes)", "is_clash_tree": "(clashes, value)", "clash_book": "(clashes, names)",
        "clash_formula": "(clashes, names)",
    },
    "cuts": {"formula_lacking": "(formula, lot)", "formula_plenty": "(formula, lot)"},
    "layouts": {
        "ways_of": "(formula, *, most=2000)", "book_of": "(formula)", "count_ways": "(formula)",
        "way_at": "(formula, number)", "place_of_way": "(formula, value)", "share": "(formula, amounts)",
        "is_way": "(formula, value)",
    },
    "mending": {"story_kinds": "(book)", "calming_lots": "(book)", "easing_lots": "(book)"},
    "mirrors": {
        "is_session_story": "(book, value)", "all_session_stories": "(book)", "first_session_story": "(book)",
        "story_rounds": "(book, story)", "mirror_fault": "(book, one, other)", "session_story_of": "(book, story)",
        "story_of_session": "(book, story)",
    },
    "pairs": {
        "check_web": "(value)", "web_book": "(web)", "web_formula": "(web)", "open_walk": "(web)",
        "closed_web": "(web)",
    },
    "pieces": {
        "check_pool_of": "(formula, value)", "pieces": "(formula, pool)", "needed": "(formula, pool, kind, many)",
        "short_kinds": "(formula, pool)", "pieces_with_plenty": "(formula, pool, lot)",
    },
    "prices": {
        "are_prices": "(book, bar, value)", "way_costs": "(book, prices)", "rest_cost": "(book, prices)",
        "price_limit": "(book, prices, pool)", "is_mix": "(book, bar, value)", "mix_pool": "(book, bar, mix)",
    },
    "rounds": {
        "round_lengths": "(book, demand, *, most=2000)", "count_rounds": "(book, demand, *, most=2000)",
        "round_of_length": "(book, demand, length, *, most=2000)",
    },
    "shows": {"read_formula": "(text)", "show_formula": "(formula)"},
    "tables": {
        "most_of": "(book)", "pair_table": "(book)", "formula_pairs": "(formula)",
        "formula_of_table": "(most, pairs)",
    },
    "asked": {"Asker": "(kinds)"},
    "builder": {"built": "(book)"},
    "buying": {
        "price_steps": "(formula, pool, prices)", "price_for": "(formula, pool, prices, many)",
        "cheapest": "(formula, pool, prices, many)", "most_for": "(formula, pool, prices, budget)",
    },
    "crossings": {"crossing": "(net)", "is_crossing": "(net, value)", "crossed_widths": "(net)"},
    "hands": {
        "hand_limits": "(formula, pool, lot, other)", "share_pool": "(formula, pool, lot, other, many, rest)",
    },
    "haste": {
        "bar_haste": "(book, bar)", "best_prices": "(book, bar)", "best_mix": "(book, bar)",
        "is_best": "(book, bar, prices, mix)", "haste": "(book)", "price_table": "(book)",
        "longest_bound": "(book, table, length)", "sure_length": "(book, table, length)",
    },
    "left": {
        "is_used_up": "(formula, pool)", "can_be_left": "(formula, pool, value)", "count_left": "(formula, pool)",
        "left_pools": "(formula, pool, *, most=2000)",
    },
    "moments": {
        "totals": "(formula, comings)", "backlog": "(formula, comings, orders)",
        "missing": "(formula, comings, orders, kind)",
    },
    "neighbours": {
        "may_go": "(formula)", "may_come": "(formula)", "stems": "(formula)",
        "formula_without": "(formula, bundle)", "formula_with": "(formula, bundle)",
    },
    "plans": {
        "plan_size": "(formula)", "plan_for": "(formula, pool, many)", "is_plan": "(formula, pool, value)",
        "least_pools": "(formula, many, *, most=2000)", "count_least_pools": "(formula, many)",
    },
    "shops": {"Shop": "(formula)", "replay": "(formula, deeds)"},
    "sides": {
        "all_sides": "(formula)", "is_side": "(formula, value)", "side_pieces": "(formula, pool, side)",
        "tight_sides": "(formula, pool)",
    },
    "steady": {"is_steady": "(book)", "steady_prices": "(book, bar)", "steady_bounds": "(book, pool)"},
    "striking": {
        "Strikes": "(lot, tree)", "fewest_strikes": "(book)", "all_fewest_strikes": "(book)",
        "is_strikes": "(book, value)",
    },
    "times": {
        "is_prompt": "(clashes, lengths, value)", "prompt_starts": "(clashes, lengths, order)",
        "prompt_ends": "(clashes, lengths)", "remaining": "(clashes, lengths, starts, moment)",
        "sure_end": "(clashes, lengths)", "heaviest_lot": "(clashes, lengths)",
        "latest_starts": "(clashes, lengths)", "two_ends": "(clashes, *, least=0)",
    },
    "together": {
        "joined_by_and": "(book, other)", "joined_by_or": "(book, other)", "so_many": "(book, number)",
        "put_in": "(book, kind, formula)", "telling_pool": "(book, other)",
    },
    "turns": {
        "last_hand": "(formula, pool, hands, *, first=0)", "turn_value": "(shops, most)",
        "good_turn": "(shops, most)",
    },
    "accounts": {"count_as": "(formula, bundle)", "fall_pools": "(formula, bundle)"},
    "cores": {
        "is_soft": "(formula)", "core_of": "(formula)", "last_ways": "(formula)", "strike_row": "(formula)",
        "book_path": "(one, other)", "is_book_path": "(one, other, value)",
    },
    "court": {"AsMany": "(formula)", "Told": "(story)", "court": "(book)", "is_verdict": "(book, value)"},
    "rooms": {
        "boat_book": "(boat)", "boat_formula": "(boat)", "even_rooms": "(sizes, most)", "last_even_room": "(sizes)",
        "boats_of": "(formula)",
    },
    "serving": {
        "sessions_needed": "(formula, demand)", "side_sessions": "(formula, demand, side)",
        "tight_session_side": "(formula, demand)", "whole_cover": "(formula, demand)",
    },
    "used": {
        "left_bounds": "(formula, pool)", "cheapest_left": "(formula, pool, prices)",
        "dearest_left": "(formula, pool, prices)", "is_left_sure": "(formula, pool)",
        "unlike_lefts": "(formula, pool)", "unsure_pool": "(formula)",
    },
    "worths": {
        "blocks": "(book)", "worth_of_run": "(book, pool, run, worths)", "is_level": "(book, worths)",
        "unlevel_runs": "(book, worths)", "level_total": "(book, pool, worths)",
    },
    "fair": {
        "is_fair": "(book, prices)", "piece_worths": "(formula, prices)", "worth_steps": "(formula)",
        "fair_prices": "(formula, worths)",
    },
    "filling": {
        "is_filling": "(book, value)", "fillings": "(book)", "fewest_filling": "(book)", "forced_ways": "(book)",
    },
    "live": {"Live": "(book, stock)"},
    "served": {
        "count_served": "(formula, demand, many=1)", "all_served": "(formula, demand, many=1, *, most=2000)",
        "is_served_by": "(formula, demand, value, many=1)",
    },
    "checker": {
        "claim_words": "()", "check_claim": "(claim)", "concluded": "(book, claims)", "gathered": "(book)",
    },
}

METHODS = {
    ("asked", "Asker"): {"tell": "(self, number)"},
    ("shops", "Shop"): {
        "come": "(self, amounts)", "make": "(self, way, *, hand=0)", "undo": "(self)", "redo": "(self)",
        "came": "(self)", "pool": "(self)", "made": "(self)", "made_by": "(self)", "still": "(self)",
        "deeds": "(self)",
    },
    ("live", "Live"): {
        "bring": "(self, name, amount)", "take": "(self, number)", "put": "(self, bundle)",
        "strike": "(self, number)", "undo": "(self)", "changes": "(self)", "present": "(self)", "stock": "(self)",
        "brought": "(self)", "made": "(self)", "still": "(self)", "credit": "(self)",
    },
}


class Interface(unittest.TestCase):

    def test_names_and_parameters(self):
        for name, told in INTERFACE.items():
            module = importlib.import_module("asmany." + name)
            for word, signature in told.items():
                found = getattr(module, word)
                self.assertEqual(found.__module__, module.__name__, word)
                self.assertEqual(found.__name__, word)
                if signature is not None:
                    self.assertEqual(str(inspect.signature(found)), signature, word)

    def test_methods(self):
        """They are defined in the class itself."""
        for (name, word), told in METHODS.items():
            found = vars(getattr(importlib.import_module("asmany." + name), word))
            for method, signature in told.items():
                self.assertEqual(str(inspect.signature(found[method])), signature, method)

    def test_classes_are_derived_from_nothing(self):
        for name, told in INTERFACE.items():
            module = importlib.import_module("asmany." + name)
            for word in told:
                if name != "errors" and inspect.isclass(getattr(module, word)):
                    self.assertEqual(getattr(module, word).__bases__, (object,))


if __name__ == "__main__":
    unittest.main()
