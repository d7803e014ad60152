import random
import unittest

from laws import refusal
from samples import COLOR, DIGIT, form_of
from some_glasses import near_table, some_forms, some_house, some_pane
from twoglass.carried import backward
from twoglass.changes import changed, changes, joined
from twoglass.drops import Drop
from twoglass.errors import NoField, NoPane, NoTable, Stale, Twice
from twoglass.glasses import Both, Leaf, Over
from twoglass.nests import Nest
from twoglass.pairs import Join
from twoglass.panes import Pane
from twoglass.renames import Rename
from twoglass.sieves import Sieve
from twoglass.tables import keeps
from twoglass.watch import Watch

FORMS = {"a": form_of(DIGIT), "b": form_of(COLOR), "c": ((("k", DIGIT), ("l", COLOR)), ())}
HOUSE = {"a": ((1, 5), (2, 6), (3, 7)), "b": ((2, "red"), (3, ""), (8, "blue")), "c": ((2, ""), (3, "red"))}
PAIRED = Pane((("x", Both(Over(Leaf("a"), Rename("v", "w")), Leaf("b"), Join())), ("y", Over(Leaf("c"), Nest(1, "in")))))
LOW = Pane((("x", Over(Leaf("a"), Sieve("v", ("number", 0, 5)))),))
KEYS = Pane((("keys", Over(Leaf("a"), Drop("v", 9))), ("b", Leaf("b"))))


class WatchTest(unittest.TestCase):
    def setUp(self):
        self.forms, self.house = dict(FORMS), dict(HOUSE)
        self.watch = Watch(self.forms, self.house)

    def tearDown(self):
        self.assertEqual(self.forms, FORMS)
        self.assertEqual(self.house, HOUSE)

    def open_all(self):
        for name, pane in (("p", PAIRED), ("low", LOW), ("k", KEYS)):
            self.watch.open_pane(name, pane)

    def test_a_house_without_panes(self):
        self.assertEqual(self.watch.house_now(), HOUSE)
        self.assertEqual(self.watch.change_house({"a": (((1,), (1, 5), None),)}), {})
        self.assertEqual(self.watch.house_now(), {**HOUSE, "a": HOUSE["a"][1:]})
        self.assertEqual(self.watch.change_house({}), {})

    def test_opening_tells_what_the_pane_shows(self):
        for name, pane in (("p", PAIRED), ("low", LOW), ("k", KEYS), ("none", Pane(()))):
            told = self.watch.open_pane(name, pane)
            self.assertIsInstance(told, dict)
            self.assertEqual(told, pane.got(FORMS, HOUSE))
            self.assertEqual(self.watch.views(name), told)
        self.watch.change_house({"a": (((1,), (1, 5), None),)})
        self.assertEqual(self.watch.open_pane("late", LOW), {"x": ()})

    def test_the_same_pane_under_two_names(self):
        self.watch.open_pane("one", LOW)
        self.watch.open_pane("other", LOW)
        change = (((1,), (1, 5), (1, 4)),)
        self.assertEqual(self.watch.write("one", {"x": change}), {"one": {"x": change}, "other": {"x": change}})

    def test_changes_of_the_house(self):
        self.open_all()
        told = self.watch.change_house({"a": (((1,), (1, 5), (1, 4)), ((2,), (2, 6), None))})
        self.assertEqual(told, {"p": {"x": (((2,), (2, 6, "red"), None),)}, "low": {"x": (((1,), (1, 5), (1, 4)),)},
                                "k": {"keys": (((2,), (2,), None),)}})
        self.assertEqual(self.watch.house_now(), {**HOUSE, "a": ((1, 4), (3, 7))})
        self.assertEqual(self.watch.views("k"), {"keys": ((1,), (3,)), "b": HOUSE["b"]})

    def test_only_panes_and_views_with_some_change(self):
        self.open_all()
        self.assertEqual(self.watch.change_house({"a": (((2,), (2, 6), (2, 7)),), "b": ()}),
                         {"p": {"x": (((2,), (2, 6, "red"), (2, 7, "red")),)}})
        self.assertEqual(self.watch.change_house({"c": (((9, ""), None, (9, "")),)}),
                         {"p": {"y": (((9,), None, (9, (("",),))),)}})
        self.assertEqual(self.watch.change_house({"a": (), "b": (), "c": ()}), {})

    def test_writing_tells_all_panes_the_written_one_too(self):
        self.open_all()
        some = {"x": (((3,), (3, 7, ""), None), ((8,), None, (8, 2, "red"))), "y": ()}
        self.assertEqual(self.watch.write("p", some), {
            "p": {"x": some["x"]}, "low": {"x": (((8,), None, (8, 2)),)},
            "k": {"keys": (((3,), (3,), None), ((8,), None, (8,))), "b": (((8,), (8, "blue"), (8, "red")),)}})
        self.assertEqual(self.watch.house_now(), {
            "a": ((1, 5), (2, 6), (8, 2)), "b": ((2, "red"), (3, ""), (8, "red")), "c": HOUSE["c"]})
        self.assertEqual(self.watch.write("k", {"keys": ()}), {})

    def test_writing_a_view_that_leaves_away(self):
        self.open_all()
        self.assertEqual(self.watch.write("k", {"keys": (((0,), None, (0,)),)}), {"k": {"keys": (((0,), None, (0,)),)}})
        self.assertEqual(self.watch.house_now()["a"], ((0, 9),) + HOUSE["a"])

    def test_a_shut_pane_is_told_nothing_and_may_be_opened_again(self):
        self.open_all()
        self.assertIsNone(self.watch.shut("p"))
        self.assertEqual(self.watch.change_house({"a": (((1,), (1, 5), (1, 4)),)}), {"low": {"x": (((1,), (1, 5), (1, 4)),)}})
        self.assertEqual(refusal(self.watch.views, "p"), NoPane)
        self.assertEqual(self.watch.open_pane("p", LOW), {"x": ((1, 4),)})
        self.assertEqual(self.watch.views("p"), {"x": ((1, 4),)})

    def test_what_was_handed_in_may_be_changed(self):
        self.open_all()
        self.forms.clear()
        self.house.clear()
        some = {"a": (((1,), (1, 5), None),)}
        self.watch.change_house(some)
        some.clear()
        written = {"x": (((9,), None, (9, 0)),)}
        self.watch.write("low", written)
        written.clear()
        self.assertEqual(self.watch.house_now(), {**HOUSE, "a": ((2, 6), (3, 7), (9, 0))})
        self.assertEqual(self.watch.views("low"), {"x": ((9, 0),)})
        self.forms, self.house = dict(FORMS), dict(HOUSE)

    def test_what_was_told_may_be_changed(self):
        shown = self.watch.open_pane("low", LOW)
        shown.clear()
        self.watch.house_now().clear()
        self.watch.views("low").clear()
        told = self.watch.change_house({"a": (((1,), (1, 5), (1, 4)),)})
        told["low"].clear()
        told.clear()
        self.assertEqual(self.watch.house_now(), {**HOUSE, "a": ((1, 4), (2, 6), (3, 7))})
        self.assertEqual(self.watch.views("low"), {"x": ((1, 4),)})

    def test_each_watch_keeps_its_own(self):
        other = Watch(FORMS, HOUSE)
        self.watch.open_pane("low", LOW)
        self.watch.change_house({"a": (((1,), (1, 5), None),)})
        self.assertEqual(refusal(other.views, "low"), NoPane)
        self.assertEqual(other.house_now(), HOUSE)


class RefusedTest(unittest.TestCase):
    BAD = Pane((("x", Leaf("b")), ("y", Over(Leaf("a"), Rename("q", "r")))))

    def setUp(self):
        self.watch = Watch(FORMS, HOUSE)
        self.watch.open_pane("p", PAIRED)
        self.watch.open_pane("low", LOW)

    def tearDown(self):
        """What was refused has changed nothing."""
        self.assertEqual(self.watch.house_now(), HOUSE)
        self.assertEqual(self.watch.views("p"), PAIRED.got(FORMS, HOUSE))
        self.assertEqual(self.watch.views("low"), LOW.got(FORMS, HOUSE))
        self.assertEqual(self.watch.change_house({"a": (((1,), (1, 5), None),)}), {"low": {"x": (((1,), (1, 5), None),)}})

    def stale_key(self, ask, *arguments):
        with self.assertRaises(Stale) as caught:
            ask(*arguments)
        return caught.exception.key

    def test_opening(self):
        self.assertEqual(refusal(self.watch.open_pane, "p", LOW), Twice)
        self.assertEqual(refusal(self.watch.open_pane, "p", self.BAD), Twice)
        self.assertEqual(refusal(self.watch.open_pane, "new", self.BAD), NoField)
        self.assertEqual(refusal(self.watch.open_pane, "new", Pane((("v", Leaf("none")),))), NoTable)
        self.assertEqual(refusal(self.watch.views, "new"), NoPane)
        self.assertEqual(refusal(self.watch.shut, "new"), NoPane)

    def test_shutting_writing_and_views(self):
        for name in ("new", "a", "x", ""):
            self.assertEqual(refusal(self.watch.shut, name), NoPane)
            self.assertEqual(refusal(self.watch.views, name), NoPane)
            self.assertEqual(refusal(self.watch.write, name, {}), NoPane)
            self.assertEqual(refusal(self.watch.write, name, {"none": (), "x": (((9,), (9, 9), None),)}), NoPane)

    def test_shutting_twice(self):
        self.watch.open_pane("new", LOW)
        self.watch.shut("new")
        self.assertEqual(refusal(self.watch.shut, "new"), NoPane)

    def test_changes_of_the_house(self):
        self.assertEqual(refusal(self.watch.change_house, {"x": ()}), NoTable)
        self.assertEqual(refusal(self.watch.change_house, {"a": (((1,), None, (1, 0)),), "none": ()}), NoTable)
        some = {"b": (((9,), (9, ""), None),), "a": (((0,), None, (0, 1)), ((3,), (3, 0), None))}
        self.assertEqual(self.stale_key(self.watch.change_house, some), (3,))
        some = {"a": (((0,), None, (0, 1)),), "b": (((9,), (9, ""), None),)}
        self.assertEqual(self.stale_key(self.watch.change_house, some), (9,))

    def test_written_changes(self):
        self.assertEqual(refusal(self.watch.write, "p", {"a": ()}), NoTable)
        self.assertEqual(refusal(self.watch.write, "p", {"z": (), "x": (((1,), (1, 1, ""), None),)}), NoTable)
        some = {"y": (((0,), (0, (("",),)), None),), "x": (((2,), (2, 6, "red"), None), ((4,), (4, 1, ""), None))}
        self.assertEqual(self.stale_key(self.watch.write, "p", some), (4,))
        self.assertEqual(self.stale_key(self.watch.write, "low", {"x": (((2,), (2, 6), None),)}), (2,))

    def test_without_any_pane(self):
        watch = Watch(FORMS, HOUSE)
        self.assertEqual(refusal(watch.change_house, {"none": ()}), NoTable)
        self.assertEqual(self.stale_key(watch.change_house, {"a": (((1,), None, (1, 0)),)}), (1,))
        self.assertEqual(watch.house_now(), HOUSE)


class ManyDeedsTest(unittest.TestCase):
    """Deeds by chance, beside an own record of the house and of what each pane was told."""

    def setUp(self):
        self.chance = random.Random(111)

    def start(self):
        self.forms = some_forms(self.chance, "abcd")
        self.house = some_house(self.chance, self.forms, 5)
        self.watch = Watch(self.forms, self.house)
        self.panes, self.told = {}, {}

    def do_open(self):
        name = self.chance.choice("pqrst")
        names = self.chance.sample("abcd", 4)
        pane = some_pane(self.chance, self.forms, names, 4)
        if name in self.panes:
            self.assertEqual(refusal(self.watch.open_pane, name, pane), Twice)
            return
        self.panes[name] = pane
        views = self.watch.open_pane(name, pane)
        self.assertEqual(views, pane.got(self.forms, self.house))
        self.told[name] = {view: (table, ()) for view, table in views.items()}

    def do_shut(self):
        if self.panes and self.chance.random() < 0.3:
            name = self.chance.choice(sorted(self.panes))
            self.watch.shut(name)
            self.panes.pop(name)
            self.told.pop(name)

    def near_changes(self, forms, tables):
        near = {name: near_table(self.chance, form, tables[name], 1) for name, form in forms.items()}
        some = {name: changes(len(form[0]), tables[name], near[name]) for name, form in forms.items()}
        return {name: some[name] for name in some if self.chance.random() < 0.7}

    def apply(self, some):
        for name, there in some.items():
            self.house = {**self.house, name: changed(len(self.forms[name][0]), self.house[name], there)}

    def do_change(self):
        some = self.near_changes(self.forms, self.house)
        self.apply(some)
        self.listen(self.watch.change_house(some))

    def do_write(self):
        if not self.panes:
            return
        name = self.chance.choice(sorted(self.panes))
        pane = self.panes[name]
        some = self.near_changes(pane.view_forms(self.forms), pane.got(self.forms, self.house))
        self.apply(backward(self.forms, pane, self.house, some))
        told = self.watch.write(name, some)
        self.assertEqual(told.get(name, {}), {view: there for view, there in some.items() if there})
        self.listen(told)

    def listen(self, told):
        for name, views in told.items():
            self.assertTrue(views)
            for view, some in views.items():
                self.assertTrue(some)
                table, before = self.told[name][view]
                self.told[name][view] = (table, joined(before, some))

    def check_now(self):
        self.assertEqual(self.watch.house_now(), self.house)
        for name, form in self.forms.items():
            self.assertTrue(keeps(form, self.house[name]))
        for name, pane in self.panes.items():
            now = pane.got(self.forms, self.house)
            self.assertEqual(self.watch.views(name), now)
            for view, form in pane.view_forms(self.forms).items():
                table, some = self.told[name][view]
                self.assertEqual(changed(len(form[0]), table, some), now[view])

    def test_what_was_told_joined_leads_to_what_is_shown(self):
        for count in range(30):
            with self.subTest(count=count):
                self.start()
                for unused in range(20):
                    self.chance.choice((self.do_open, self.do_shut, self.do_change, self.do_write, self.do_write))()
                    self.check_now()


if __name__ == "__main__":
    unittest.main()
