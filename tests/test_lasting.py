import itertools
import random
import unittest

from laws import refusal
from samples import COLOR, DIGIT, ONE, form_of, rows, tables_of
from some_glasses import near_table, some_forms, some_glass, some_house
from twoglass.drops import Drop
from twoglass.errors import NoField, NoTable, Twice
from twoglass.gathers import Gather
from twoglass.glasses import Both, Leaf, Over
from twoglass.lasting import lasting
from twoglass.nests import Nest, Unnest
from twoglass.pairs import Join
from twoglass.parts import Fuse, Part
from twoglass.renames import Rename
from twoglass.sieves import Sieve
from twoglass.steps import Step
from twoglass.tables import keeps

BIT = ("number", 0, 1)
FORMS = {
    "a": ((("k", DIGIT), ("l", COLOR)), (("n", ("number", -4, 3)), ("w", COLOR), ("one", ONE))),
    "b": ((("k", ("number", 5, 20)), ("l", COLOR)), (("p", DIGIT),)),
    "c": ((("k", ("number", 0, 7)), ("l", COLOR), ("m", BIT)), (("q", rows(form_of(COLOR), True)),)),
    "d": form_of(rows(((("x", DIGIT),), (("w", COLOR),)), False)),
    "e": form_of(rows(((("x", COLOR),), (("y", DIGIT), ("z", ONE))), True)),
}
OVER_A = (Rename("k", "r"), Part("k", 5, "s", "t"), Step(), Nest(1, "in"), Sieve("k", ("number", 3, 4)),
          Sieve("l", ("word", ("red",))), Sieve("w", COLOR), Sieve("n", ("number", -4, 99)), Drop("one", 7))
HIDING_A = (Drop("n", -4), Drop("n", 3), Drop("n", 0), Drop("w", ""), Drop("w", "red"), Sieve("n", ("number", -3, 9)),
            Sieve("n", ("number", -9, 2)), Sieve("n", ("number", 0, 0)), Sieve("w", ("word", ("", "red"))),
            Sieve("w", ("word", ("blue", "red", "zz"))), Sieve("w", ("word", ("red",))))


def over(glass, *steps):
    for step in steps:
        glass = Over(glass, step)
    return glass


class LastingCase(unittest.TestCase):
    def check_none(self, glass, forms=FORMS):
        before = dict(forms)
        self.assertIsNone(lasting(forms, glass))
        self.assertEqual(forms, before)

    def check_witness(self, glass, forms=FORMS):
        """What is told is a house of the glass's tables and two views that show that the first put counts."""
        before = dict(forms)
        told = lasting(forms, glass)
        self.assertEqual(forms, before)
        self.assertIsInstance(told, tuple)
        house, first, second = told
        self.assertIsInstance(house, dict)
        self.assertEqual(sorted(house), sorted(glass.names()))
        for name in house:
            self.assertTrue(keeps(forms[name], house[name]), house)
        self.assertTrue(keeps(glass.form(forms), first), first)
        self.assertTrue(keeps(glass.form(forms), second), second)
        both = glass.put(forms, glass.put(forms, house, first), second)
        self.assertNotEqual(both, glass.put(forms, house, second))


class StepsTest(LastingCase):
    def test_steady_steps_alone(self):
        for glass in (Leaf("a"), over(Leaf("e"), Unnest("v")), over(Leaf("a"), Drop("one", 7)),
                      over(Leaf("a"), Nest(1, "in"), Unnest("in"), Rename("k", "r"))):
            self.check_none(glass)
        for step in OVER_A:
            self.check_none(over(Leaf("a"), step))
            self.check_none(over(Leaf("a"), Sieve("k", ("number", 3, 4)), Step(), Rename("w", "ww")))
        self.check_none(over(Leaf("a"), Part("k", 5, "s", "t"), Sieve("t", BIT), Rename("n", "nn"), Drop("one", 7)))
        self.check_none(over(Leaf("a"), Part("n", 4, "s", "t"), Fuse("s", "t", 4, "n")))

    def test_each_step_that_is_not_steady_alone(self):
        for step in HIDING_A:
            self.check_witness(over(Leaf("a"), step))
        self.check_witness(over(Leaf("d"), Unnest("v")))

    def test_under_other_steps(self):
        for step in HIDING_A:
            for upper in (Rename("l", "r"), Part("k", 5, "s", "t"), Nest(1, "in"), Sieve("k", ("number", 3, 4)),
                          Sieve("l", ("word", ("red",))), Step(), Drop("one", 7)):
                self.check_witness(over(Leaf("a"), step, upper))
                self.check_witness(over(Leaf("a"), step, Step(), upper, Step()))
        for upper in (Rename("k", "r"), Sieve("k", ("number", 3, 4)), Nest(1, "in")):
            self.check_witness(over(Leaf("d"), Rename("k", "j"), Unnest("v"), Rename("w", "u"), Rename("j", "k"), upper))

    def test_over_other_steps(self):
        for step in HIDING_A:
            for lower in (Part("k", 5, "s", "t"), Sieve("k", ("number", 3, 4)), Rename("k", "r"), Drop("one", 7)):
                self.check_witness(over(Leaf("a"), lower, step))
        self.check_witness(over(Leaf("e"), Unnest("v"), Drop("y", 9)))
        self.check_witness(over(Leaf("d"), Rename("k", "r"), Unnest("v")))
        self.check_witness(over(Leaf("d"), Sieve("k", ("number", 8, 8)), Rename("v", "u"), Unnest("u")))

    def test_deep_in_a_row_of_steps(self):
        self.check_witness(over(Leaf("a"), Part("k", 5, "s", "t"), Part("n", 2, "x", "y"), Sieve("t", BIT), Drop("y", 1),
                                Rename("w", "ww"), Nest(2, "in"), Unnest("in"), Rename("l", "ll"), Step()))
        self.check_witness(over(Leaf("a"), Drop("one", 7), Rename("n", "z"), Sieve("w", ("word", ("blue",))),
                                Nest(1, "in"), Sieve("k", ("number", 9, 9)), Rename("in", "out"), Unnest("out")))

    def test_several_that_are_not_steady(self):
        for one, other in itertools.permutations(HIDING_A, 2):
            if isinstance(one, Sieve) or one.name != other.name:
                glass = over(Leaf("a"), one, other, Rename("k", "r"))
                if refusal(glass.form, FORMS) is None:
                    self.check_witness(glass)

    def test_a_sieve_that_a_lower_one_makes_exact(self):
        self.check_none(over(Leaf("a"), Sieve("k", ("number", 3, 4)), Sieve("k", ("number", 0, 5))))
        self.check_none(over(Leaf("a"), Part("n", 4, "s", "t"), Sieve("t", ("number", 0, 3))))

    def test_refused_as_the_glass(self):
        for glass, due in ((Leaf("none"), NoTable), (over(Leaf("a"), Rename("x", "y")), NoField),
                           (Both(Leaf("a"), Leaf("a"), Join()), Twice)):
            self.assertEqual(refusal(lasting, FORMS, glass), due)


class PairsTest(LastingCase):
    JOINED = Both(Leaf("a"), Leaf("b"), Join())
    GATHERED = Both(Leaf("a"), Leaf("c"), Gather("in"))

    def test_each_pair_alone(self):
        self.check_witness(self.JOINED)
        self.check_witness(self.GATHERED)
        self.check_witness(Both(Leaf("b"), Leaf("a"), Join()))
        self.check_witness(Both(Leaf("b"), Leaf("c"), Gather("in")))

    def test_under_steps(self):
        for glass in (self.JOINED, self.GATHERED):
            for step in (Rename("k", "r"), Sieve("k", ("number", 5, 6)), Step()) + OVER_A[5:] + HIDING_A:
                self.check_witness(over(glass, step))
                self.check_witness(over(glass, Sieve("l", ("word", ("", "red"))), Step(), step, Step()))
        self.check_witness(over(self.JOINED, Part("k", 5, "s", "t"), Nest(2, "x"), Rename("s", "u")))
        self.check_witness(over(self.GATHERED, Nest(1, "x"), Unnest("x"), Rename("n", "s")))

    def test_over_steps(self):
        for step in HIDING_A + (Rename("n", "s"), Step(), Sieve("k", ("number", 5, 9))):
            for pair, other in ((Join(), Leaf("b")), (Join(), over(Leaf("b"), Drop("p", 3))), (Gather("in"), Leaf("c"))):
                self.check_witness(Both(over(Leaf("a"), step), other, pair))
        for step in HIDING_A:
            self.check_witness(Both(Leaf("b"), over(Leaf("a"), step), Join()))

    def test_pairs_within_pairs(self):
        self.check_witness(Both(self.JOINED, Leaf("c"), Gather("in")))
        self.check_witness(Both(Leaf("b"), over(self.GATHERED, Drop("n", 1), Rename("w", "pw")), Join()))
        self.check_witness(over(Both(over(self.JOINED, Drop("n", 0)), over(Leaf("c"), Sieve("m", BIT)), Gather("in")),
                                Sieve("p", ("number", 0, 4)), Rename("in", "out")))

    def test_the_house_has_just_the_tables_that_the_glass_names(self):
        self.assertEqual(sorted(lasting(FORMS, self.JOINED)[0]), ["a", "b"])
        self.assertEqual(sorted(lasting(FORMS, over(Leaf("a"), Drop("n", 0)))[0]), ["a"])


class AllOfSmallFormsTest(LastingCase):
    """Whether the last put alone counts, reckoned by going through all houses and views."""

    TWO = ("word", ("a", "b"))
    SMALL = {
        "a": ((("k", BIT),), (("v", BIT),)),
        "b": ((("k", BIT),), (("u", ("number", 3, 3)),)),
        "c": ((("k", BIT), ("l", ("number", 0, 0))), ()),
        "d": ((("k", BIT),), (("r", rows(((("x", ("number", 0, 0)),), ()), False)),)),
        "e": ((("k", BIT),), (("r", rows(((("x", ("number", 0, 0)),), ()), True)),)),
        "f": ((("k", TWO), ("l", BIT)), ()),
    }
    GLASSES = (
        Leaf("a"), over(Leaf("a"), Rename("v", "w")), over(Leaf("a"), Drop("v", 0)), over(Leaf("a"), Drop("v", 1)),
        over(Leaf("b"), Drop("u", 3)), over(Leaf("a"), Sieve("v", ("number", 0, 0))), over(Leaf("a"), Sieve("v", BIT)),
        over(Leaf("a"), Sieve("k", ("number", 1, 1))), over(Leaf("a"), Part("v", 2, "p", "q")),
        over(Leaf("a"), Part("v", 2, "p", "q"), Drop("p", 0)), over(Leaf("a"), Part("v", 2, "p", "q"), Drop("q", 0)),
        over(Leaf("a"), Sieve("k", ("number", 1, 1)), Drop("v", 0)),
        over(Leaf("a"), Sieve("v", ("number", 1, 1)), Drop("v", 1)),
        over(Leaf("a"), Drop("v", 0), Sieve("k", ("number", 1, 1))),
        over(Leaf("a"), Part("k", 2, "p", "q"), Nest(1, "in")), over(Leaf("d"), Unnest("r")), over(Leaf("e"), Unnest("r")),
        over(Leaf("e"), Unnest("r"), Sieve("k", ("number", 0, 0))), over(Leaf("f"), Nest(1, "in")),
        over(Leaf("d"), Unnest("r"), Sieve("k", ("number", 0, 0))), over(Leaf("f"), Sieve("l", ("number", 0, 0))),
        over(Leaf("f"), Sieve("l", ("number", 0, 0)), Drop("l", 0)), over(Leaf("f"), Sieve("k", ("word", ("b",)))),
        Both(Leaf("a"), Leaf("b"), Join()), Both(Leaf("b"), Leaf("a"), Join()), Both(Leaf("b"), Leaf("c"), Gather("in")),
        over(Both(Leaf("a"), Leaf("b"), Join()), Sieve("k", ("number", 0, 0))),
        Both(over(Leaf("a"), Sieve("k", ("number", 0, 0))), Leaf("b"), Join()),
        Both(over(Leaf("a"), Drop("v", 0)), Leaf("b"), Join()),
    )

    def last_counts(self, glass):
        names = glass.names()
        houses = [dict(zip(names, tables)) for tables in
                  itertools.product(*[tables_of(self.SMALL[name]) for name in names])]
        views = tables_of(glass.form(self.SMALL))
        for house in houses:
            alone = [glass.put(self.SMALL, house, view) for view in views]
            for first in alone:
                if [glass.put(self.SMALL, first, view) for view in views] != alone:
                    return False
        return True

    def test_told_just_where_it_is_so(self):
        answers = []
        for glass in self.GLASSES:
            counts = self.last_counts(glass)
            answers.append(counts)
            if counts:
                self.check_none(glass, self.SMALL)
            else:
                self.check_witness(glass, self.SMALL)
        self.assertEqual(len([one for one in answers if one]), 14)


class SomeGlassesTest(LastingCase):
    def is_steady(self, forms, glass):
        if isinstance(glass, Over):
            return glass.step.steady(glass.glass.form(forms)) and self.is_steady(forms, glass.glass)
        return isinstance(glass, Leaf)

    def test_by_chance(self):
        chance = random.Random(81)
        lasting_ones = 0
        for count in range(600):
            with self.subTest(count=count):
                forms = some_forms(chance, "abcd")
                glass = some_glass(chance, forms, "abcd", chance.choice((1, 2, 3, 6, 12)))
                if self.is_steady(forms, glass):
                    lasting_ones += 1
                    self.check_none(glass, forms)
                    self.check_last_counts(chance, forms, glass)
                else:
                    self.check_witness(glass, forms)
        self.assertGreater(lasting_ones, 100)

    def check_last_counts(self, chance, forms, glass):
        house, told = some_house(chance, forms, 8), glass.form(forms)
        first = near_table(chance, told, glass.got(forms, house), 4)
        second = near_table(chance, told, first, 4)
        self.assertEqual(glass.put(forms, glass.put(forms, house, first), second), glass.put(forms, house, second))


if __name__ == "__main__":
    unittest.main()
