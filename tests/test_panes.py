import random
import unittest

from laws import refusal
from samples import COLOR, DIGIT, form_of
from some_glasses import near_table, some_forms, some_house, some_pane, tree_of
from twoglass.drops import Drop
from twoglass.errors import NoField, NoKind, NoTable, Twice
from twoglass.gathers import Gather
from twoglass.glasses import Both, Leaf, Over
from twoglass.pairs import Join
from twoglass.panes import Pane, behind, beside
from twoglass.renames import Rename
from twoglass.sieves import Sieve
from twoglass.steps import Step

FORMS = {"a": form_of(DIGIT), "b": form_of(COLOR), "c": ((("k", DIGIT), ("l", COLOR)), ())}
HOUSE = {"a": ((1, 5), (2, 6), (3, 7)), "b": ((2, "red"), (3, ""), (8, "blue")), "c": ((2, ""), (3, "red"))}
RED = Over(Over(Leaf("b"), Sieve("v", ("word", ("red",)))), Drop("v", "red"))
PAIRED = Both(Over(Leaf("a"), Rename("v", "w")), Leaf("b"), Join())


def trees(pane):
    return tuple([(view, tree_of(glass)) for view, glass in pane.pairs])


class PaneTest(unittest.TestCase):
    def setUp(self):
        self.forms, self.house = dict(FORMS), dict(HOUSE)

    def tearDown(self):
        self.assertEqual(self.forms, FORMS)
        self.assertEqual(self.house, HOUSE)

    def check_told(self, pane, views, view_forms):
        for told, due in ((pane.view_forms(self.forms), view_forms), (pane.got(self.forms, self.house), views)):
            self.assertIsInstance(told, dict)
            self.assertEqual(told, due)
            self.assertEqual(list(told), [view for view, glass in pane.pairs])

    def put(self, pane, views):
        before = dict(views)
        after = pane.put(self.forms, self.house, views)
        self.assertIsInstance(after, dict)
        self.assertIsNot(after, self.house)
        self.assertEqual(views, before)
        return after

    def test_no_pair_at_all(self):
        pane = Pane(())
        self.assertEqual(pane.pairs, ())
        self.check_told(pane, {}, {})
        self.assertEqual(self.put(pane, {}), HOUSE)
        self.assertEqual(self.put(pane, {"a": ()}), HOUSE)
        self.assertEqual(pane.view_forms({}), {})

    def test_one_pair(self):
        pane = Pane((("v", PAIRED),))
        self.check_told(pane, {"v": ((2, 6, "red"), (3, 7, ""))}, {"v": PAIRED.form(FORMS)})
        self.assertEqual(self.put(pane, {"v": ((1, 0, "red"),)}), PAIRED.put(FORMS, HOUSE, ((1, 0, "red"),)))

    def test_several_pairs(self):
        pane = Pane((("y", RED), ("b", Leaf("c")), ("x", Leaf("a"))))
        self.check_told(pane, {"y": ((2,),), "b": HOUSE["c"], "x": HOUSE["a"]},
                        {"y": ((("k", DIGIT),), ()), "b": FORMS["c"], "x": FORMS["a"]})
        views = {"x": ((9, 9),), "y": ((3,), (4,)), "b": ()}
        self.assertEqual(self.put(pane, views), {
            "a": ((9, 9),), "b": ((3, "red"), (4, "red"), (8, "blue")), "c": ()})
        self.assertEqual(self.put(pane, pane.got(FORMS, HOUSE)), HOUSE)

    def test_views_of_other_names_are_not_looked_at(self):
        pane = Pane((("v", Leaf("a")),))
        self.assertEqual(self.put(pane, {"v": (), "a": 5, "b": None, "zz": ((1, 1),)}), {**HOUSE, "a": ()})

    def test_tables_that_no_glass_names_stay(self):
        self.assertEqual(self.put(Pane((("v", Leaf("c")),)), {"v": ()}), {**HOUSE, "c": ()})

    def test_the_pairs_are_a_tuple(self):
        pairs = (("v", Leaf("a")), ("w", RED))
        self.assertEqual(Pane(pairs).pairs, pairs)
        self.assertIsInstance(Pane(pairs).pairs, tuple)

    def test_each_dict_is_a_new_one(self):
        pane = Pane((("v", Leaf("a")),))
        for ask in (lambda: pane.view_forms(self.forms), lambda: pane.got(self.forms, self.house),
                    lambda: pane.put(self.forms, self.house, {"v": HOUSE["a"]})):
            told = ask()
            due = dict(told)
            told.clear()
            self.assertEqual(ask(), due)


class PaneRefusedTest(unittest.TestCase):
    def test_a_view_twice(self):
        self.assertEqual(refusal(Pane, (("v", Leaf("a")), ("v", Leaf("b")))), Twice)
        self.assertEqual(refusal(Pane, (("v", Leaf("a")), ("w", Leaf("b")), ("v", Leaf("c")))), Twice)
        self.assertIsNone(refusal(Pane, (("a", Leaf("b")), ("b", Leaf("a")))))

    def test_a_table_twice_in_two_glasses(self):
        self.assertEqual(refusal(Pane, (("v", Leaf("a")), ("w", Leaf("a")))), Twice)
        self.assertEqual(refusal(Pane, (("v", PAIRED), ("x", Leaf("c")), ("w", RED))), Twice)

    def test_a_table_twice_within_one(self):
        self.assertEqual(refusal(Pane, (("v", Both(Leaf("a"), Leaf("a"), Join())),)), Twice)
        self.assertEqual(refusal(Pane, (("v", Over(Both(Leaf("a"), Both(Leaf("b"), Leaf("a"), Join()), Join()), Step())),)),
                         Twice)

    def test_forms_as_the_first_glass_that_refuses_them(self):
        no_field = Over(Leaf("a"), Rename("x", "y"))
        no_kind = Both(Leaf("b"), Leaf("c"), Join())
        fine, none = ("u", Leaf("d")), ("t", Leaf("none"))
        forms = {**FORMS, "d": form_of(DIGIT)}
        for pairs, due in (((fine, ("v", no_field), ("w", no_kind)), NoField),
                           ((fine, ("v", no_kind), ("w", no_field)), NoKind),
                           ((("v", no_kind), none), NoKind), ((none, ("v", no_kind)), NoTable), ((fine,), None)):
            self.assertEqual(refusal(Pane(pairs).view_forms, forms), due)


class BehindTest(unittest.TestCase):
    def test_each_leaf_is_replaced(self):
        inner = Pane((("p", PAIRED), ("q", Leaf("c")), ("r", Over(Leaf("d"), Rename("v", "u")))))
        outer = Pane((("x", Over(Over(Leaf("r"), Rename("u", "s")), Step())),
                      ("y", Over(Both(Over(Leaf("p"), Drop("w", 1)), Leaf("q"), Gather("in")), Rename("v", "z")))))
        self.assertEqual(trees(behind(outer, inner)), (
            ("x", ((("d", ("rename", "v", "u")), ("rename", "u", "s")), ())),
            ("y", (((((("a", ("rename", "v", "w")), "b", ("join",)), ("drop", "w", "1")), "c", ("gather", "in")),
                    ("rename", "v", "z"))))))
        self.assertIsInstance(behind(outer, inner).pairs, tuple)
        self.assertEqual(trees(inner)[1], ("q", "c"))
        self.assertEqual(trees(outer)[0], ("x", (("r", ("rename", "u", "s")), ())))

    def test_views_that_the_outer_one_does_not_name_are_gone(self):
        inner = Pane((("p", Leaf("a")), ("q", Leaf("b"))))
        self.assertEqual(trees(behind(Pane((("v", Leaf("q")),)), inner)), (("v", "b"),))
        self.assertEqual(trees(behind(Pane(()), inner)), ())
        self.assertEqual(trees(behind(Pane(()), Pane(()))), ())

    def test_a_leaf_alone(self):
        pane = behind(Pane((("v", Leaf("p")),)), Pane((("p", RED),)))
        self.assertEqual(pane.got(FORMS, HOUSE), {"v": ((2,),)})
        self.assertEqual(pane.put(FORMS, HOUSE, {"v": ()}), {**HOUSE, "b": ((3, ""), (8, "blue"))})

    def test_no_table(self):
        inner = Pane((("p", Leaf("a")),))
        for glass in (Leaf("q"), Leaf("a"), Over(Leaf("q"), Step()), Both(Leaf("p"), Leaf("q"), Join()),
                      Both(Leaf("q"), Leaf("p"), Join()), Over(Both(Leaf("p"), Over(Leaf("a"), Step()), Join()), Step())):
            self.assertEqual(refusal(behind, Pane((("v", glass),)), inner), NoTable)
            self.assertEqual(refusal(behind, Pane((("u", Leaf("p")), ("v", Leaf("a")))), inner), NoTable)
        self.assertEqual(refusal(behind, inner, Pane(())), NoTable)

    def test_forms_are_refused_as_the_first_glass_that_refuses_them(self):
        pane = behind(Pane((("v", Over(Leaf("p"), Rename("x", "y"))),)), Pane((("p", Leaf("none")),)))
        self.assertEqual(refusal(pane.view_forms, FORMS), NoTable)

    def test_as_the_two_one_behind_the_other(self):
        chance = random.Random(61)
        for unused in range(150):
            forms = some_forms(chance, "abcd")
            inner = some_pane(chance, forms, "abcd", 4)
            between = inner.view_forms(forms)
            outer = some_pane(chance, between, list(between), 4)
            pane = behind(outer, inner)
            self.assertEqual(pane.view_forms(forms), outer.view_forms(between))
            house = some_house(chance, forms, 6)
            shown = inner.got(forms, house)
            views = outer.got(between, shown)
            self.assertEqual(pane.got(forms, house), views)
            told = outer.view_forms(between)
            views = {view: near_table(chance, told[view], views[view], 4) for view in told}
            self.assertEqual(pane.put(forms, house, views), inner.put(forms, house, outer.put(between, shown, views)))


class BesideTest(unittest.TestCase):
    def test_the_pairs_of_the_one_and_then_of_the_other(self):
        one, other = Pane((("x", Leaf("a")), ("w", RED))), Pane((("b", Leaf("c")),))
        self.assertEqual(beside(one, other).pairs, one.pairs + other.pairs)
        self.assertEqual(beside(other, one).pairs, other.pairs + one.pairs)
        self.assertEqual(beside(one, Pane(())).pairs, one.pairs)
        self.assertEqual(beside(Pane(()), Pane(())).pairs, ())
        self.assertEqual(beside(one, other).got(FORMS, HOUSE), {**one.got(FORMS, HOUSE), **other.got(FORMS, HOUSE)})
        views = {"x": (), "w": ((5,),), "b": ((0, ""),)}
        self.assertEqual(beside(one, other).put(FORMS, HOUSE, views),
                         other.put(FORMS, one.put(FORMS, HOUSE, views), views))

    def test_twice(self):
        for one, other in ((("v", Leaf("a")), ("v", Leaf("b"))), (("v", Leaf("a")), ("w", Leaf("a"))),
                           (("v", PAIRED), ("w", RED))):
            self.assertEqual(refusal(beside, Pane((one,)), Pane((other,))), Twice)


if __name__ == "__main__":
    unittest.main()
