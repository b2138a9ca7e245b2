"""The names, arguments and places of definition that the interface of the document lists."""

import importlib
import inspect
import unittest

FUNCTIONS = {
    "ringlaps.circle": {
        "far": "(size, start, end)",
        "between": "(size, start, place, end)",
        "covers": "(size, start, place, end)",
        "places_from": "(size, start, places)",
        "inside": "(size, start, end, places)",
        "nearest_ahead": "(size, start, places)",
        "nearest_behind": "(size, end, places)",
    },
    "ringlaps.orders": {
        "from_least": "(order)",
        "order_nexts": "(order)",
        "order_turns": "(size, order)",
        "descents": "(row)",
        "count_orders": "(count, turns)",
        "nth_order": "(places, turns, index)",
        "order_index": "(order)",
    },
    "ringlaps.letters": {
        "letter_text": "(letter)",
        "parse_letter": "(text)",
    },
    "ringlaps.nettext": {
        "format_net": "(net)",
        "parse_net": "(text)",
    },
    "ringlaps.pieces": {
        "way": "(net, start, end)",
        "way_length": "(net, start, end)",
        "house_at": "(net, start, distance)",
        "ring_of": "(net, house)",
        "on_ring": "(net, house)",
        "gate_of": "(net, house)",
        "piece_of": "(net, house)",
        "pieces": "(net)",
        "least_of": "(net, house)",
        "turns_of": "(net, house)",
        "arrows_over": "(net, house, place)",
    },
    "ringlaps.sayings": {
        "sayings": "(net)",
        "holds_true": "(net, saying)",
        "first_untrue": "(net)",
        "piece_is_true": "(net, house)",
    },
    "ringlaps.marks": {
        "marks_of": "(net, house)",
        "mark_row": "(net, house)",
        "judge_marks": "(net, turns, marks)",
    },
    "ringlaps.calm": {
        "calm_round": "(net)",
        "each_held_once": "(net)",
        "settle": "(net)",
    },
    "ringlaps.ends": {
        "told_end": "(net)",
        "rooms": "(net)",
        "change_bounds": "(net)",
        "far_sum": "(net)",
        "loss": "(net)",
        "is_plain": "(net)",
        "ends_plain": "(net)",
    },
    "ringlaps.logs": {
        "is_faithful": "(net, house, target)",
        "apply_changes": "(net, changes)",
        "first_unfaithful": "(net, changes)",
    },
    "ringlaps.clear": {
        "distances_to": "(net, z)",
        "clear_fault": "(net, z)",
        "is_clear": "(net, z)",
        "clear_towards": "(net, house)",
        "judge_clear": "(net, z, distances)",
    },
    "ringlaps.cures": {
        "let_go": "(net, house)",
        "take_newcomer": "(net, house, place)",
        "meet": "(net, house, other)",
        "heal": "(net)",
        "healing_targets": "(net, house)",
        "unite": "(net)",
    },
    "ringlaps.meaning": {
        "meaning": "(net)",
        "admitted": "(size, meaning, place, host)",
        "released": "(size, meaning, house)",
        "row_marks": "(size, turns, row)",
    },
    "ringlaps.leaving": {
        "is_quiet": "(net, house)",
        "leave": "(net, house)",
    },
    "ringlaps.laps": {
        "lap_saying": "(letter)",
    },
    "ringlaps.lookups": {
        "answer": "(net, house, key)",
        "ring_answers": "(net, house, key)",
        "told_answer": "(net, house, key)",
    },
    "ringlaps.falls": {
        "fall": "(net, fallen, *, ahead=2)",
        "gaps": "(net, fallen, *, ahead=2)",
    },
    "ringlaps.deeds": {
        "deed_text": "(deed)",
        "parse_deed": "(line)",
        "journal_text": "(net, deeds)",
        "parse_journal": "(text)",
    },
    "ringlaps.desk": {
        "replay": "(net, deeds)",
    },
    "ringlaps.audit": {
        "audit": "(net, deeds)",
        "next_meaning": "(size, meaning, deed, result)",
        "first_surprise": "(net, deeds)",
        "next_changes": "(net, deeds)",
    },
}

CLASSES = {
    "ringlaps.walks": {
        "Walk": {
            "__init__": "(self, size, places)",
            "total": "(self)",
            "crossings": "(self, place)",
            "turns": "(self)",
            "is_closed": "(self)",
            "backwards": "(self)",
            "__add__": "(self, other)",
            "__contains__": "(self, place)",
            "__iter__": "(self)",
        },
    },
    "ringlaps.net": {
        "Net": {
            "__init__": "(self, size, nexts, *, befores=None, letters=None)",
            "houses": "(self)",
            "letters": "(self)",
            "nexts": "(self)",
            "befores": "(self)",
            "next_of": "(self, house)",
            "before_of": "(self, house)",
            "snapshot": "(self)",
            "clone": "(self)",
            "tell": "(self, house)",
            "ask": "(self, house)",
            "read": "(self, at)",
            "lose": "(self, at)",
            "repeat": "(self, at)",
            "admit": "(self, place, host)",
            "hold": "(self, house, target)",
            "set_before": "(self, house, before)",
            "take_out": "(self, house)",
        },
    },
    "ringlaps.houses": {
        "House": {
            "__init__": "(self, size, place, next_house, before=None)",
            "tell_letter": "(self)",
            "ask_letter": "(self)",
            "hear": "(self, letter)",
        },
    },
    "ringlaps.mender": {
        "Mender": {
            "__init__": "(self, net)",
            "laps": "(self)",
            "memory": "(self, house)",
            "healers": "(self)",
            "write_lap": "(self, house)",
            "carry": "(self, at)",
            "drop_lap": "(self, at)",
            "repeat_lap": "(self, at)",
            "calm_lap": "(self)",
            "mend": "(self)",
        },
    },
    "ringlaps.store": {
        "Store": {
            "__init__": "(self, net, copies=1)",
            "holders": "(self, house, key)",
            "put": "(self, house, key, worth)",
            "find_worth": "(self, house, key)",
            "kept": "(self, house)",
            "move": "(self, net)",
        },
    },
    "ringlaps.desk": {
        "Desk": {
            "__init__": "(self, net)",
            "do": "(self, deed)",
            "undo": "(self)",
            "redo": "(self)",
            "journal": "(self)",
            "text": "(self)",
            "do_all": "(self, deeds)",
            "state": "(self)",
        },
    },
}


class InterfaceTest(unittest.TestCase):
    def test_functions(self):
        for name, functions in FUNCTIONS.items():
            module = importlib.import_module(name)
            for word, signature in functions.items():
                with self.subTest(module=name, function=word):
                    function = getattr(module, word)
                    self.assertTrue(inspect.isfunction(function))
                    self.assertEqual(function.__module__, name)
                    self.assertEqual(str(inspect.signature(function)), signature)

    def test_classes(self):
        for name, classes in CLASSES.items():
            module = importlib.import_module(name)
            for word, methods in classes.items():
                kind = getattr(module, word)
                self.assertTrue(inspect.isclass(kind))
                self.assertEqual(kind.__module__, name)
                for method, signature in methods.items():
                    with self.subTest(module=name, kind=word, method=method):
                        found = vars(kind)[method]
                        self.assertEqual(str(inspect.signature(found)), signature)


if __name__ == "__main__":
    unittest.main()
