import importlib
import inspect
import unittest

# The files with the functions that the document lists under each; the class Table is in test_table.py.
FUNCTIONS = {
    "arrangements": {"is_arrangement": "thing", "arms": "arrangement", "cross": "one other"},
    "exchanges": {"exchanges": "arrangement", "exchanged": "arrangement exchange", "run": "arrangement some"},
    "known": {"is_known": "people thing", "fits": "known thing", "regions": "people known",
              "evidence": "people known", "many": "people known", "arrangement_at": "people known number",
              "number_of": "people known arrangement", "all_arrangements": "people known"},
    "areas": {"areas": "arrangement", "area_of": "arrangement place", "by_areas": "people some"},
    "rings": {"rings": "one other", "distance": "one other", "nearer": "one other", "plan": "one other",
              "shows_plan": "one other thing"},
    "chances": {"pair_chance": "people known one other", "partner_chances": "people known person",
                "sure_pairs": "people known", "possible_pairs": "people known", "neighbour_mean": "people known"},
    "texts": {"arrangement_text": "arrangement", "known_text": "known", "exchanges_text": "some",
              "arrangement_in": "text", "known_in": "text", "exchanges_in": "text"},
    "turns": {"turned": "arrangement seats", "mirrored": "arrangement", "period": "arrangement",
              "alike_many": "people seats"},
    "small": {"spheres": "arrangement", "farthest": "arrangement", "ways_many": "one other"},
    "sheet": {"answers": "text"},
}


class Interface(unittest.TestCase):
    def test_names_and_parameters(self):
        for file, functions in FUNCTIONS.items():
            module = importlib.import_module("handshakes." + file)
            for name, parameters in functions.items():
                function = getattr(module, name)
                self.assertEqual(function.__module__, module.__name__)
                self.assertEqual(" ".join(inspect.signature(function).parameters), parameters)


if __name__ == "__main__":
    unittest.main()
