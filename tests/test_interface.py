import importlib
import inspect
import unittest

# The files that are written so far, with the functions that the document lists under each.
FUNCTIONS = {
    "arrangements": {"is_arrangement": "thing", "arms": "arrangement", "cross": "one other"},
    "exchanges": {"exchanges": "arrangement", "exchanged": "arrangement exchange", "run": "arrangement some"},
    "known": {"is_known": "people thing", "fits": "known thing", "regions": "people known",
              "evidence": "people known", "many": "people known", "arrangement_at": "people known number",
              "number_of": "people known arrangement", "all_arrangements": "people known"},
    "areas": {"areas": "arrangement", "area_of": "arrangement place", "by_areas": "people some"},
}


class Interface(unittest.TestCase):
    def test_names_and_parameters(self):
        for file, functions in FUNCTIONS.items():
            module = importlib.import_module("handshakes." + file)
            for name, parameters in functions.items():
                function = getattr(module, name)
                self.assertEqual(function.__module__, module.__name__)
                self.assertEqual(" ".join(inspect.signature(function).parameters), parameters)


if __name__ == "__main__":
    unittest.main()
