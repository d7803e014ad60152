import importlib
import inspect
import unittest

INTERFACE = {
    "kinds": {"both": ["one", "other"], "single": ["kind"], "least": ["kind"]},
    "forms": {"check_form": ["form"], "names_of": ["form"], "place_of": ["form", "name"], "depth_of": ["form"]},
    "tables": {"fits": ["kind", "value"], "keeps": ["form", "table"], "sorted_by": ["many", "rows"],
               "least_row": ["form"]},
    "changes": {"changes": ["many", "old", "new"], "changed": ["many", "table", "some"],
                "joined": ["first", "second"], "undone": ["some"]},
    "panes": {"behind": ["outer", "inner"], "beside": ["one", "other"]},
    "carried": {"forward": ["forms", "pane", "house", "some"], "backward": ["forms", "pane", "house", "some"],
                "is_flat": ["glass"]},
    "lasting": {"lasting": ["forms", "glass"]},
    "thinned": {"thinned": ["forms", "glass"], "steps_of": ["glass"]},
    "texts": {"shown": ["glass"], "read": ["text"]},
}
STEP_METHODS = {"words": [], "view_form": ["form"], "got": ["form", "table"], "put": ["form", "table", "view"],
                "exact": ["form"], "steady": ["form"]}
STEPS = {
    "renames": {"Rename": ["old", "new"]},
    "parts": {"Part": ["name", "by", "quotient", "rest"], "Fuse": ["quotient", "rest", "by", "name"]},
    "drops": {"Drop": ["name", "value"]},
    "sieves": {"Sieve": ["name", "kind"]},
    "nests": {"Nest": ["many", "name"], "Unnest": ["name"]},
}
PAIR_METHODS = {"words": [], "view_form": ["one", "other"], "got": ["forms", "tables"],
                "put": ["forms", "tables", "view"]}
GLASS_METHODS = {"names": [], "form": ["forms"], "got": ["forms", "house"], "put": ["forms", "house", "view"]}
GLASSES = {"Leaf": ["name"], "Over": ["glass", "step"], "Both": ["one", "other", "pair"]}
WATCH_METHODS = {"open_pane": ["name", "pane"], "shut": ["name"], "change_house": ["some"], "write": ["name", "some"],
                 "house_now": [], "views": ["name"]}
PANE_METHODS = {"view_forms": ["forms"], "got": ["forms", "house"], "put": ["forms", "house", "views"]}


def named(module, name):
    return getattr(importlib.import_module(f"twoglass.{module}"), name)


def arguments_of(function):
    return list(inspect.signature(function).parameters)


class InterfaceTest(unittest.TestCase):
    def test_names_and_arguments(self):
        for module, functions in INTERFACE.items():
            for name, arguments in functions.items():
                with self.subTest(module=module, name=name):
                    function = named(module, name)
                    self.assertEqual(function.__module__, f"twoglass.{module}")
                    self.assertEqual(arguments_of(function), arguments)

    def check_methods(self, thing, methods):
        for name, arguments in methods.items():
            with self.subTest(thing=thing, name=name):
                self.assertEqual(arguments_of(getattr(thing, name)), arguments)

    def check_class(self, module, name, base, arguments, methods):
        with self.subTest(module=module, name=name):
            made = named(module, name)
            self.assertEqual(made.__module__, f"twoglass.{module}")
            self.assertEqual(made.__bases__, (base,))
            self.assertEqual(arguments_of(made), arguments)
            values = [object() for unused in arguments]
            thing = made(*values)
            self.assertEqual(vars(thing), dict(zip(arguments, values)))
            self.check_methods(thing, methods)

    def test_steps(self):
        self.check_class("steps", "Step", object, [], STEP_METHODS)
        for module, classes in STEPS.items():
            for name, arguments in classes.items():
                self.check_class(module, name, named("steps", "Step"), arguments, STEP_METHODS)

    def test_pairs(self):
        self.check_class("pairs", "Pair", object, [], PAIR_METHODS)
        self.check_class("pairs", "Join", named("pairs", "Pair"), [], PAIR_METHODS)
        self.check_class("gathers", "Gather", named("pairs", "Pair"), ["name"], PAIR_METHODS)

    def test_glasses(self):
        self.check_class("glasses", "Glass", object, [], GLASS_METHODS)
        for name, arguments in GLASSES.items():
            self.check_class("glasses", name, named("glasses", "Glass"), arguments, GLASS_METHODS)

    def test_panes(self):
        pane = named("panes", "Pane")
        self.assertEqual(pane.__module__, "twoglass.panes")
        self.assertEqual(pane.__bases__, (object,))
        self.assertEqual(arguments_of(pane), ["pairs"])
        self.assertEqual(pane(()).pairs, ())
        self.check_methods(pane(()), PANE_METHODS)

    def test_the_watch(self):
        watch = named("watch", "Watch")
        self.assertEqual(watch.__module__, "twoglass.watch")
        self.assertEqual(arguments_of(watch), ["forms", "house"])
        self.check_methods(watch({}, {}), WATCH_METHODS)


if __name__ == "__main__":
    unittest.main()
