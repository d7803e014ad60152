import importlib
import inspect
import unittest

INTERFACE = {
    "kinds": {"both": ["one", "other"], "single": ["kind"], "least": ["kind"]},
    "forms": {"check_form": ["form"], "names_of": ["form"], "place_of": ["form", "name"], "depth_of": ["form"]},
    "tables": {"fits": ["kind", "value"], "keeps": ["form", "table"], "sorted_by": ["many", "rows"],
               "least_row": ["form"]},
}


class InterfaceTest(unittest.TestCase):
    def test_names_and_arguments(self):
        for module, functions in INTERFACE.items():
            for name, arguments in functions.items():
                with self.subTest(module=module, name=name):
                    function = getattr(importlib.import_module(f"twoglass.{module}"), name)
                    self.assertEqual(function.__module__, f"twoglass.{module}")
                    self.assertEqual(list(inspect.signature(function).parameters), arguments)


if __name__ == "__main__":
    unittest.main()
