"""What the document promises of every glass, for glasses by chance of up to twelve steps and pairs."""

import random
import unittest

from some_glasses import near_table, some_forms, some_glass, some_house, some_pane, tree_of
from twoglass.carried import backward, forward, is_flat
from twoglass.changes import changed, changes
from twoglass.forms import check_form
from twoglass.glasses import parts_of
from twoglass.lasting import lasting
from twoglass.nests import Unnest
from twoglass.panes import Pane, behind, beside
from twoglass.tables import keeps
from twoglass.texts import read, shown
from twoglass.thinned import steps_of, thinned

TIMES = 150
NAMES = "abcd"


def tables_changed(forms, tables, some):
    return {name: changed(len(form[0]), tables[name], some.get(name, ())) for name, form in forms.items()}


def tables_changes(forms, old, new):
    return {name: changes(len(form[0]), old[name], new[name]) for name, form in forms.items()}


def near_tables(chance, forms, tables, most):
    return {name: near_table(chance, form, tables[name], most) for name, form in forms.items()}


class WholeTest(unittest.TestCase):
    def each_glass(self, seed, check):
        chance = random.Random(seed)
        for count in range(TIMES):
            with self.subTest(seed=seed, count=count):
                forms = some_forms(chance, NAMES)
                glass = some_glass(chance, forms, NAMES, chance.choice((1, 2, 4, 8, 12, 12)))
                self.assertLessEqual(len(parts_of(glass)), 12)
                check(chance, forms, glass)

    def each_pane(self, seed, check):
        chance = random.Random(seed)
        for count in range(TIMES):
            with self.subTest(seed=seed, count=count):
                forms = some_forms(chance, NAMES)
                check(chance, forms, some_pane(chance, forms, NAMES, chance.choice((1, 2, 4, 12))))

    def test_the_view_can_be_put_and_is_got(self):
        self.each_glass(71, self.check_round_trips)

    def check_round_trips(self, chance, forms, glass):
        told = glass.form(forms)
        check_form(told)
        house = some_house(chance, forms, 8)
        view = glass.got(forms, house)
        self.assertTrue(keeps(told, view))
        self.assertEqual(glass.put(forms, house, view), house)
        for view in ((), near_table(chance, told, view, 3), near_table(chance, told, (), 6)):
            self.check_put(forms, glass, house, view)
            self.check_put(forms, glass, {name: () for name in forms}, view)

    def check_put(self, forms, glass, house, view):
        before = dict(house)
        after = glass.put(forms, house, view)
        self.assertEqual(house, before)
        self.assertEqual(set(after), set(forms))
        for name, form in forms.items():
            self.assertTrue(keeps(form, after[name]), (name, after[name]))
            if name not in glass.names():
                self.assertEqual(after[name], house[name])
        self.assertEqual(glass.got(forms, after), view)

    def test_carried_forward(self):
        self.each_pane(72, self.check_forward)

    def check_forward(self, chance, forms, pane):
        house = some_house(chance, forms, 6)
        after = near_tables(chance, forms, house, chance.choice((1, 2, 4)))
        some = tables_changes(forms, house, after)
        told = forward(forms, pane, house, some)
        self.assertNotIn((), told.values())
        self.assertEqual(tables_changed(pane.view_forms(forms), pane.got(forms, house), told), pane.got(forms, after))
        for view, glass in pane.pairs:
            if not any([isinstance(part, Unnest) for part in parts_of(glass)]):
                self.assertLessEqual(len(told.get(view, ())), sum([len(some[name]) for name in glass.names()]))

    def test_carried_backward(self):
        self.each_pane(73, self.check_backward)

    def check_backward(self, chance, forms, pane):
        house = some_house(chance, forms, 6)
        view_forms, old = pane.view_forms(forms), pane.got(forms, house)
        new = near_tables(chance, view_forms, old, chance.choice((1, 2, 4)))
        some = tables_changes(view_forms, old, new)
        told = backward(forms, pane, house, some)
        self.assertNotIn((), told.values())
        self.assertEqual(tables_changed(forms, house, told), pane.put(forms, house, new))
        self.assertEqual(pane.got(forms, tables_changed(forms, house, told)), new)
        for view, glass in pane.pairs:
            if is_flat(glass):
                for name in glass.names():
                    self.assertLessEqual(len(told.get(name, ())), len(some[view]))

    def test_panes_behind_one_another_are_told_as_one(self):
        self.each_pane(74, self.check_behind)

    def check_behind(self, chance, forms, inner):
        between = inner.view_forms(forms)
        outer = some_pane(chance, between, list(between), 6)
        pane = behind(outer, inner)
        house = some_house(chance, forms, 6)
        shown = inner.got(forms, house)
        self.assertEqual(pane.view_forms(forms), outer.view_forms(between))
        self.assertEqual(pane.got(forms, house), outer.got(between, shown))
        some = tables_changes(forms, house, near_tables(chance, forms, house, 2))
        self.assertEqual(forward(forms, pane, house, some),
                         forward(between, outer, shown, forward(forms, inner, house, some)))
        old = pane.got(forms, house)
        some = tables_changes(pane.view_forms(forms), old, near_tables(chance, pane.view_forms(forms), old, 2))
        self.assertEqual(backward(forms, pane, house, some),
                         backward(forms, inner, house, backward(between, outer, shown, some)))

    def test_panes_beside_one_another_are_told_as_one(self):
        self.each_pane(75, self.check_beside)

    def check_beside(self, chance, forms, pane):
        cut = chance.randint(0, len(pane.pairs))
        one, other = Pane(pane.pairs[:cut]), Pane(pane.pairs[cut:])
        house = some_house(chance, forms, 6)
        whole = beside(one, other)
        self.assertEqual(whole.got(forms, house), {**one.got(forms, house), **other.got(forms, house)})
        after = near_tables(chance, forms, house, 2)
        some = tables_changes(forms, house, after)
        self.assertEqual(forward(forms, whole, house, some),
                         {**forward(forms, one, house, some), **forward(forms, other, house, some)})
        views = near_tables(chance, whole.view_forms(forms), whole.got(forms, house), 2)
        self.assertEqual(whole.put(forms, house, views), other.put(forms, one.put(forms, house, views), views))

    def test_two_views_one_behind_the_other(self):
        self.each_glass(76, self.check_lasting)

    def check_lasting(self, chance, forms, glass):
        witness = lasting(forms, glass)
        house = some_house(chance, forms, 6)
        first = near_table(chance, glass.form(forms), glass.got(forms, house), 3)
        second = near_table(chance, glass.form(forms), first, 3)
        if witness is not None:
            house, first, second = witness
        counts = glass.put(forms, glass.put(forms, house, first), second) == glass.put(forms, house, second)
        self.assertEqual(counts, witness is None)

    def test_a_thinned_glass_is_written_thinner_and_lasts_as_well(self):
        self.each_glass(77, self.check_thinned)

    def check_thinned(self, chance, forms, glass):
        thin = thinned(forms, glass)
        self.assertLessEqual(steps_of(thin), steps_of(glass))
        self.assertEqual(thin.form(forms), glass.form(forms))
        house = some_house(chance, forms, 6)
        view = near_table(chance, thin.form(forms), thin.got(forms, house), 3)
        self.assertEqual(thin.got(forms, house), glass.got(forms, house))
        self.assertEqual(thin.put(forms, house, view), glass.put(forms, house, view))
        self.assertEqual(lasting(forms, thin) is None, lasting(forms, glass) is None)
        self.assertEqual(tree_of(read(shown(thin))), tree_of(thin))


if __name__ == "__main__":
    unittest.main()
