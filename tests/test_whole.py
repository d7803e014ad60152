"""What the document promises of every glass, for glasses by chance of up to twelve steps and pairs."""

import random
import unittest

from some_glasses import near_table, some_forms, some_glass, some_house, some_pane
from twoglass.carried import backward, forward, is_flat
from twoglass.changes import changed, changes
from twoglass.forms import check_form
from twoglass.glasses import parts_of
from twoglass.nests import Unnest
from twoglass.tables import keeps

TIMES = 250
NAMES = "abcd"


def tables_changed(forms, tables, some):
    return {name: changed(len(form[0]), tables[name], some.get(name, ())) for name, form in forms.items()}


def tables_changes(forms, old, new):
    return {name: changes(len(form[0]), old[name], new[name]) for name, form in forms.items()}


def near_tables(chance, forms, tables, most):
    return {name: near_table(chance, form, tables[name], most) for name, form in forms.items()}


class WholeTest(unittest.TestCase):
    def each_glass(self, seed, check):
        chance = random.Random(seed)
        for count in range(TIMES):
            with self.subTest(seed=seed, count=count):
                forms = some_forms(chance, NAMES)
                glass = some_glass(chance, forms, NAMES, chance.choice((1, 2, 4, 8, 12, 12)))
                self.assertLessEqual(len(parts_of(glass)), 12)
                check(chance, forms, glass)

    def each_pane(self, seed, check):
        chance = random.Random(seed)
        for count in range(TIMES):
            with self.subTest(seed=seed, count=count):
                forms = some_forms(chance, NAMES)
                check(chance, forms, some_pane(chance, forms, NAMES, chance.choice((1, 2, 4, 12))))

    def test_the_view_can_be_put_and_is_got(self):
        self.each_glass(71, self.check_round_trips)

    def check_round_trips(self, chance, forms, glass):
        told = glass.form(forms)
        check_form(told)
        house = some_house(chance, forms, 8)
        view = glass.got(forms, house)
        self.assertTrue(keeps(told, view))
        self.assertEqual(glass.put(forms, house, view), house)
        for view in ((), near_table(chance, told, view, 3), near_table(chance, told, (), 6)):
            self.check_put(forms, glass, house, view)
            self.check_put(forms, glass, {name: () for name in forms}, view)

    def check_put(self, forms, glass, house, view):
        before = dict(house)
        after = glass.put(forms, house, view)
        self.assertEqual(house, before)
        self.assertEqual(set(after), set(forms))
        for name, form in forms.items():
            self.assertTrue(keeps(form, after[name]), (name, after[name]))
            if name not in glass.names():
                self.assertEqual(after[name], house[name])
        self.assertEqual(glass.got(forms, after), view)

    def test_carried_forward(self):
        self.each_pane(72, self.check_forward)

    def check_forward(self, chance, forms, pane):
        house = some_house(chance, forms, 6)
        after = near_tables(chance, forms, house, chance.choice((1, 2, 4)))
        some = tables_changes(forms, house, after)
        told = forward(forms, pane, house, some)
        self.assertNotIn((), told.values())
        self.assertEqual(tables_changed(pane.view_forms(forms), pane.got(forms, house), told), pane.got(forms, after))
        for view, glass in pane.pairs:
            if not any([isinstance(part, Unnest) for part in parts_of(glass)]):
                self.assertLessEqual(len(told.get(view, ())), sum([len(some[name]) for name in glass.names()]))

    def test_carried_backward(self):
        self.each_pane(73, self.check_backward)

    def check_backward(self, chance, forms, pane):
        house = some_house(chance, forms, 6)
        view_forms, old = pane.view_forms(forms), pane.got(forms, house)
        new = near_tables(chance, view_forms, old, chance.choice((1, 2, 4)))
        some = tables_changes(view_forms, old, new)
        told = backward(forms, pane, house, some)
        self.assertNotIn((), told.values())
        self.assertEqual(tables_changed(forms, house, told), pane.put(forms, house, new))
        self.assertEqual(pane.got(forms, tables_changed(forms, house, told)), new)
        for view, glass in pane.pairs:
            if is_flat(glass):
                for name in glass.names():
                    self.assertLessEqual(len(told.get(name, ())), len(some[view]))


if __name__ == "__main__":
    unittest.main()
