import random
import unittest

from laws import refusal
from samples import COLOR, DIGIT, ONE, form_of, rows
from some_glasses import near_table, some_forms, some_glass, some_house, some_step, tree_of
from twoglass.drops import Drop
from twoglass.errors import GlassError, NoField, NoTable, Twice
from twoglass.forms import names_of
from twoglass.gathers import Gather
from twoglass.glasses import Both, Leaf, Over
from twoglass.nests import Nest, Unnest
from twoglass.pairs import Join
from twoglass.parts import Fuse, Part
from twoglass.renames import Rename
from twoglass.sieves import Sieve
from twoglass.steps import Step
from twoglass.thinned import steps_of, thinned

BIT = ("number", 0, 1)
FIVE = ("number", 0, 4)
FORMS = {
    "a": ((("k", DIGIT), ("l", COLOR)), (("n", ("number", -10, 9)), ("w", COLOR))),
    "b": ((("k", ("number", 5, 20)), ("l", COLOR)), (("p", DIGIT),)),
    "c": ((("k", DIGIT), ("l", COLOR), ("m", BIT)), ()),
    "q": ((("q", BIT), ("r", FIVE), ("s", FIVE)), (("u", DIGIT), ("t", FIVE), ("v", ONE))),
    "d": ((("k", DIGIT), ("l", BIT)), (("i", rows(((("x", COLOR),), (("y", DIGIT),)), True)),)),
    "e": ((("k", DIGIT), ("l", BIT)), (("i", rows(((("x", COLOR), ("z", BIT)), (("y", DIGIT),)), False)),)),
}


def over(glass, *steps):
    for step in steps:
        glass = Over(glass, step)
    return glass


def sieve(name, low, high):
    return Sieve(name, ("number", low, high))


def keep(name, *words):
    return Sieve(name, ("word", words))


def is_replaced(form, step):
    """Whether the step goes, by the document."""
    return step.words() == () or step.words()[0] in ("sieve", "keep") and step.view_form(form) == form


def are_replaced(form, lower, upper):
    """Whether the two, the upper right over the lower, are replaced, by the document; told by their words."""
    one, other = lower.words(), upper.words()
    if not one or not other:
        return False
    pair = (one[0], other[0])
    if pair == ("rename", "rename"):
        return one[2] == other[1]
    if one[0] in ("sieve", "keep") and other[0] in ("sieve", "keep"):
        return one[1] == other[1]
    if pair == ("part", "fuse"):
        return (one[2], one[3], one[4]) == (other[3], other[1], other[2])
    if pair == ("fuse", "part"):
        names = names_of(form)
        return one[1:] == (other[3], other[4], other[2], other[1]) and names.index(one[2]) == names.index(one[1]) + 1
    if pair == ("nest", "unnest"):
        return one[2] == other[1]
    if pair == ("unnest", "nest"):
        return form[1][0][1][2] and other[1] == str(len(form[0]))
    return False


def places(forms, glass):
    """How many of the replacements stand in the glass."""
    if isinstance(glass, Leaf):
        return 0
    if isinstance(glass, Both):
        return places(forms, glass.one) + places(forms, glass.other)
    found = places(forms, glass.glass) + is_replaced(glass.glass.form(forms), glass.step)
    if isinstance(glass.glass, Over):
        found += are_replaced(glass.glass.glass.form(forms), glass.glass.step, glass.step)
    return found


def count_of(glass):
    if isinstance(glass, Leaf):
        return 0
    if isinstance(glass, Over):
        return count_of(glass.glass) + 1
    return count_of(glass.one) + count_of(glass.other) + 1


class ThinnedCase(unittest.TestCase):
    def check(self, chance, forms, glass):
        """What the document says of every thinned glass."""
        before, tree = dict(forms), tree_of(glass)
        told = thinned(forms, glass)
        self.assertEqual((forms, tree_of(glass)), (before, tree))
        self.assertEqual(places(forms, told), 0, tree_of(told))
        self.assertEqual(told.form(forms), glass.form(forms))
        self.assertEqual(told.names(), glass.names())
        self.assertLessEqual(steps_of(told), steps_of(glass))
        if places(forms, glass) == 0:
            self.assertEqual(tree_of(told), tree)
        else:
            self.assertLess(steps_of(told), steps_of(glass))
        for most in (0, 3, 8):
            house = some_house(chance, forms, most)
            view = glass.got(forms, house)
            self.assertEqual(told.got(forms, house), view)
            view = near_table(chance, glass.form(forms), view, 4)
            self.assertEqual(told.put(forms, house, view), glass.put(forms, house, view))
        return told


class EachTest(ThinnedCase):
    def becomes(self, name, steps, left):
        """The steps over this Leaf are thinned to those that are left, alone and where others lie below and above."""
        chance = random.Random(91)
        told = self.check(chance, FORMS, over(Leaf(name), *steps))
        self.assertEqual(tree_of(told), tree_of(over(Leaf(name), *left)))
        field = FORMS[name][0][0][0]
        below, above = sieve(field, 0, 0), Drop(field, 0)
        told = self.check(chance, FORMS, over(Leaf(name), below, Step(), *steps, above))
        self.assertEqual(tree_of(told), tree_of(over(Leaf(name), below, *left, above)))
        self.becomes_below_a_pair(chance, over(Leaf(name), *steps), over(Leaf(name), *left))

    def becomes_below_a_pair(self, chance, glass, left):
        forms = {**FORMS, "twin": (glass.form(FORMS)[0], ())}
        told = self.check(chance, forms, Both(glass, Leaf("twin"), Join()))
        self.assertEqual(tree_of(told), tree_of(Both(left, Leaf("twin"), Join())))
        told = self.check(chance, forms, Both(Leaf("twin"), glass, Join()))
        self.assertEqual(tree_of(told), tree_of(Both(Leaf("twin"), left, Join())))

    def stays(self, name, *steps):
        self.becomes(name, steps, steps)

    def test_a_plain_step(self):
        self.becomes("a", [Step()], [])
        self.becomes("a", [Step(), Step(), Rename("n", "x"), Step()], [Rename("n", "x")])
        self.becomes("a", [Rename("n", "x"), Step(), Rename("x", "y")], [Rename("n", "y")])

    def test_renames(self):
        self.becomes("a", [Rename("n", "x"), Rename("x", "y")], [Rename("n", "y")])
        self.becomes("a", [Rename("n", "x"), Rename("x", "n")], [])
        self.becomes("a", [Rename("n", "x"), Rename("x", "y"), Rename("y", "z"), Rename("z", "n")], [])
        self.becomes("a", [Rename("w", "v"), Rename("n", "x"), Rename("x", "w")], [Rename("w", "v"), Rename("n", "w")])

    def test_renames_that_stay(self):
        self.stays("a", Rename("n", "x"), Rename("w", "y"))
        self.stays("a", Rename("n", "x"), Rename("w", "n"))
        self.stays("a", Rename("n", "x"), Rename("w", "y"), Rename("x", "z"))

    def test_sieves(self):
        self.becomes("a", [sieve("n", -5, 3), sieve("n", 0, 20)], [sieve("n", 0, 3)])
        self.becomes("a", [sieve("n", -50, 3), sieve("n", 0, 20)], [sieve("n", 0, 3)])
        self.becomes("a", [keep("w", "", "red"), keep("w", "blue", "red")], [keep("w", "red")])
        self.becomes("a", [sieve("n", -5, 8), sieve("n", 0, 20), sieve("n", -9, 6)], [sieve("n", 0, 6)])
        self.becomes("a", [sieve("n", 2, 2), sieve("n", 0, 5)], [sieve("n", 2, 2)])

    def test_sieves_that_stay(self):
        self.stays("a", sieve("n", 0, 3), keep("w", "red"))
        self.stays("a", sieve("n", 0, 3), keep("w", "red"), sieve("n", 1, 2))
        self.stays("q", sieve("u", 0, 3), sieve("t", 0, 3))

    def test_a_sieve_that_is_exact(self):
        self.becomes("a", [sieve("n", -10, 9)], [])
        self.becomes("a", [sieve("n", -100, 100)], [])
        self.becomes("a", [keep("w", "", "blue", "green", "red")], [])
        self.becomes("a", [Rename("n", "x"), sieve("x", -10, 10), Rename("x", "n")], [])
        self.becomes("a", [sieve("n", 0, 3), keep("w", "red"), sieve("n", 0, 3)], [sieve("n", 0, 3), keep("w", "red")])

    def test_a_sieve_that_is_not_exact(self):
        self.stays("a", sieve("n", -9, 9))
        self.stays("a", sieve("n", -10, 8))
        self.stays("a", keep("w", "blue", "red"))

    def test_part_and_fuse(self):
        self.becomes("a", [Part("n", 5, "x", "y"), Fuse("x", "y", 5, "z")], [Rename("n", "z")])
        self.becomes("a", [Part("n", 5, "x", "y"), Fuse("x", "y", 5, "n")], [])
        self.becomes("a", [Part("n", 5, "x", "y"), Fuse("x", "y", 5, "x")], [Rename("n", "x")])
        self.becomes("a", [Part("n", 5, "x", "n"), Fuse("x", "n", 5, "n")], [])
        self.becomes("a", [Part("n", 5, "n", "y"), Fuse("n", "y", 5, "y")], [Rename("n", "y")])
        self.becomes("q", [Part("u", 2, "x", "y"), Fuse("x", "y", 2, "u")], [])

    def test_part_and_fuse_that_stay(self):
        self.stays("q", Part("u", 5, "x", "y"), Fuse("x", "t", 5, "z"))
        self.stays("q", Part("u", 5, "x", "y"), Fuse("t", "y", 5, "z"))
        self.stays("q", Part("u", 2, "x", "y"), Fuse("x", "t", 5, "z"))
        self.stays("a", Part("n", 2, "x", "y"), Rename("w", "v"), Fuse("x", "y", 2, "z"))

    def test_fuse_and_part(self):
        self.becomes("q", [Fuse("r", "s", 5, "f"), Part("f", 5, "r", "s")], [])
        self.becomes("q", [Fuse("u", "t", 5, "u"), Part("u", 5, "u", "t")], [])
        self.becomes("q", [Fuse("u", "t", 5, "t"), Part("t", 5, "u", "t")], [])

    def test_fuse_and_part_that_stay(self):
        self.stays("q", Fuse("s", "r", 5, "f"), Part("f", 5, "s", "r"))
        self.stays("q", Fuse("t", "u", 10, "f"), Part("f", 10, "t", "u"))
        self.stays("q", Rename("v", "x"), Fuse("r", "s", 5, "f"), Part("f", 5, "s", "r"))
        self.stays("q", Fuse("r", "s", 5, "f"), Part("f", 5, "r", "x"))
        self.stays("q", Fuse("r", "s", 5, "f"), Part("f", 5, "x", "s"))
        self.stays("q", Fuse("u", "t", 5, "f"), Part("f", 10, "u", "t"))
        self.stays("q", Fuse("u", "t", 5, "f"), Part("f", 25, "u", "t"))
        self.stays("q", Fuse("u", "t", 5, "f"), Part("s", 5, "u", "t"))

    def test_a_rest_that_does_not_stand_right_behind(self):
        forms = {"a": ((("k", BIT),), (("q", BIT), ("x", BIT), ("r", FIVE)))}
        for steps, left in (((Fuse("q", "r", 5, "f"), Part("f", 5, "q", "r")), 2),
                            ((Drop("x", 0), Fuse("q", "r", 5, "f"), Part("f", 5, "q", "r")), 1)):
            told = self.check(random.Random(92), forms, over(Leaf("a"), *steps))
            self.assertEqual(steps_of(told), left)

    def test_nest_and_unnest(self):
        self.becomes("q", [Nest(2, "i"), Unnest("i")], [])
        self.becomes("q", [Nest(2, "u"), Unnest("u")], [])
        self.becomes("q", [Nest(2, "i"), Nest(1, "j"), Unnest("j"), Unnest("i")], [])

    def test_unnest_and_nest(self):
        self.becomes("d", [Unnest("i"), Nest(2, "j")], [Rename("i", "j")])
        self.becomes("d", [Unnest("i"), Nest(2, "i")], [])
        self.becomes("d", [Rename("i", "h"), Unnest("h"), Nest(2, "i")], [])

    def test_unnest_and_nest_that_stay(self):
        self.stays("d", Unnest("i"), Rename("y", "h"), Nest(2, "i"))
        for name, many in (("d", 1), ("e", 1), ("e", 3)):
            told = self.check(random.Random(93), FORMS, over(Leaf(name), Unnest("i"), Nest(many, "i")))
            self.assertEqual(steps_of(told), 2)

    def test_inner_tables_that_may_be_empty(self):
        for name in ("i", "j"):
            told = self.check(random.Random(94), FORMS, over(Leaf("e"), Unnest("i"), Nest(2, name)))
            self.assertEqual(steps_of(told), 2)


class WholeTest(ThinnedCase):
    def test_a_glass_that_has_nothing_to_thin(self):
        chance = random.Random(95)
        for glass in (Leaf("a"), over(Leaf("a"), Drop("n", 0), Nest(1, "i")), Both(Leaf("a"), Leaf("b"), Join()),
                      Both(Leaf("a"), over(Leaf("c"), sieve("k", 0, 3)), Gather("i"))):
            self.assertEqual(tree_of(self.check(chance, FORMS, glass)), tree_of(glass))

    def test_below_a_pair_on_either_side_and_above(self):
        there = (Rename("l", "x"), Rename("x", "y"), Step(), Rename("y", "l"))
        for pair, other in ((Join(), "b"), (Gather("i"), "c")):
            due = Both(Leaf("a"), Leaf(other), pair)
            for glass in (Both(over(Leaf("a"), *there), Leaf(other), pair),
                          Both(Leaf("a"), over(Leaf(other), *there), pair),
                          over(due, *there), over(Both(over(Leaf("a"), *there), over(Leaf(other), *there), pair), *there)):
                self.assertEqual(tree_of(self.check(random.Random(96), FORMS, glass)), tree_of(due))

    def test_a_pair_between_is_not_looked_through(self):
        glass = over(Both(over(Leaf("a"), Rename("n", "x")), Leaf("b"), Join()), Rename("x", "n"))
        self.assertEqual(tree_of(self.check(random.Random(97), FORMS, glass)), tree_of(glass))
        glass = Both(over(Leaf("a"), sieve("k", 6, 8)), over(Leaf("b"), sieve("k", 6, 8)), Join())
        self.assertEqual(tree_of(self.check(random.Random(97), FORMS, glass)), tree_of(glass))
        glass = over(glass, sieve("k", 5, 9))
        self.assertEqual(tree_of(self.check(random.Random(97), FORMS, glass)), tree_of(glass.glass))

    def test_replacements_that_open_another_one(self):
        for steps, left in (
                ((Rename("n", "x"), Part("x", 5, "s", "t"), Fuse("s", "t", 5, "x"), Rename("x", "n")), ()),
                ((Rename("n", "x"), Part("x", 5, "s", "t"), Fuse("s", "t", 5, "y")), (Rename("n", "y"),)),
                ((sieve("n", 0, 3), Rename("w", "x"), Rename("x", "w"), sieve("n", 1, 5)), (sieve("n", 1, 3),)),
                ((Part("n", 10, "x", "y"), Nest(1, "i"), Unnest("i"), sieve("y", 0, 9), Fuse("x", "y", 10, "n")), ()),
                ((Nest(1, "i"), Rename("i", "j"), Unnest("j"), Nest(1, "h"), Rename("h", "i"), Unnest("i")), ()),
                ((Part("n", 2, "x", "y"), Part("x", 5, "s", "t"), Fuse("s", "t", 5, "x"), Fuse("x", "y", 2, "n")), ())):
            told = self.check(random.Random(98), FORMS, over(Leaf("a"), *steps))
            self.assertEqual(tree_of(told), tree_of(over(Leaf("a"), *left)))

    def test_refused_as_the_glass(self):
        for glass, due in ((Leaf("none"), NoTable), (over(Leaf("a"), Rename("x", "y"), Rename("y", "x")), NoField),
                           (over(Leaf("a"), Step(), Rename("n", "w"), Rename("w", "n")), Twice),
                           (Both(Leaf("a"), over(Leaf("a"), Step()), Join()), Twice)):
            self.assertEqual(refusal(thinned, FORMS, glass), due)

    def test_steps_of(self):
        for glass, due in ((Leaf("a"), 0), (over(Leaf("a"), Step()), 1), (over(Leaf("a"), Step(), Rename("x", "y")), 2),
                           (Both(Leaf("a"), Leaf("b"), Join()), 1),
                           (over(Both(over(Leaf("a"), Step(), Step()), over(Leaf("b"), Nest(1, "i")), Gather("x")),
                                 Drop("x", 1)), 5),
                           (Both(Both(Leaf("a"), Leaf("b"), Join()), Both(Leaf("a"), Leaf("b"), Join()), Join()), 3)):
            self.assertEqual(steps_of(glass), due)


def answering_step(chance, form, lower):
    """A step that may well be replaced with the lower one beneath it."""
    new = chance.choice("pqrstuvw")
    if isinstance(lower, Rename):
        return Rename(lower.new, chance.choice((lower.old, new)))
    if isinstance(lower, Sieve):
        return Sieve(lower.name, chance.choice((lower.kind, some_step_kind(chance, lower.kind))))
    if isinstance(lower, Part):
        return Fuse(lower.quotient, lower.rest, lower.by, chance.choice((lower.name, new)))
    if isinstance(lower, Fuse):
        return Part(lower.name, lower.by, chance.choice((lower.quotient, new)), chance.choice((lower.rest, new)))
    if isinstance(lower, Nest):
        return Unnest(lower.name)
    if isinstance(lower, Unnest):
        return Nest(chance.randint(1, len(form[0])), chance.choice((lower.name, new)))
    return Step()


def some_step_kind(chance, kind):
    if kind[0] == "number":
        return ("number", kind[1] - chance.randint(0, 2), kind[2] + chance.randint(0, 1))
    return ("word", ("", "a", "b", "c"))


def doubled_glass(chance, forms, names, most):
    """A glass by chance, over which steps lie that are often replaced."""
    glass = some_glass(chance, forms, names, chance.randint(0, 3))
    while count_of(glass) < most:
        form = glass.form(forms)
        step = some_step(chance, form)
        if isinstance(glass, Over) and chance.random() < 0.6:
            step = answering_step(chance, form, glass.step)
        try:
            step.view_form(form)
        except GlassError:
            step = Step() if chance.random() < 0.2 else None
        glass = Over(glass, step) if step else glass
    return glass


class SomeGlassesTest(ThinnedCase):
    def test_by_chance(self):
        chance = random.Random(99)
        thin = 0
        for count in range(500):
            with self.subTest(count=count):
                forms = some_forms(chance, "abcd")
                most = chance.choice((2, 4, 8, 12))
                one = doubled_glass(chance, forms, "ab", most)
                self.check(chance, forms, one)
                both = Both(one, doubled_glass(chance, forms, "cd", 4), chance.choice((Join(), Gather("x"))))
                if refusal(both.form, forms) is None:
                    self.check(chance, forms, both)
                thin += places(forms, one) == 0
        self.assertLess(thin, 400)


if __name__ == "__main__":
    unittest.main()
