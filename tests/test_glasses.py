import unittest

from laws import refusal
from samples import COLOR, DIGIT, form_of, rows
from twoglass.drops import Drop
from twoglass.errors import NoField, NoKind, NoTable, Nothing, Twice
from twoglass.gathers import Gather
from twoglass.glasses import Both, Glass, Leaf, Over
from twoglass.nests import Nest, Unnest
from twoglass.pairs import Join
from twoglass.parts import Part
from twoglass.renames import Rename
from twoglass.sieves import Sieve
from twoglass.steps import Step

BOOK = ((("shelf", ("word", ("east", "west"))), ("place", ("number", 0, 39))), (("pages", ("number", 1, 999)),))
LENT = ((("shelf", ("word", ("east", "west"))), ("place", ("number", 0, 39)), ("day", ("number", 1, 31))),
        (("who", ("word", ("ann", "bob"))),))
WORTH = ((("shelf", ("word", ("east", "north"))), ("place", ("number", 20, 59))), (("price", DIGIT),))
FORMS = {"book": BOOK, "lent": LENT, "worth": WORTH}
HOUSE = {"book": (("east", 3, 120), ("east", 21, 80), ("west", 0, 300)),
         "lent": (("east", 3, 9, "bob"), ("east", 21, 2, "ann"), ("east", 21, 8, "bob"), ("west", 7, 1, "ann")),
         "worth": (("east", 21, 5), ("east", 22, 6), ("north", 40, 7))}
EMPTY = {"book": (), "lent": (), "worth": ()}

PRICED = Both(Leaf("book"), Leaf("worth"), Join())
ALL = Both(Over(PRICED, Rename("pages", "size")), Leaf("lent"), Gather("loans"))


class Kept(unittest.TestCase):
    """Whatever is asked, the forms and the house stay as they were."""

    def setUp(self):
        self.forms, self.house = dict(FORMS), dict(HOUSE)

    def tearDown(self):
        self.assertEqual(self.forms, FORMS)
        self.assertEqual(self.house, HOUSE)

    def got(self, glass):
        return glass.got(self.forms, self.house)

    def put(self, glass, view):
        after = glass.put(self.forms, self.house, view)
        self.assertIsInstance(after, dict)
        self.assertIsNot(after, self.house)
        self.assertEqual(set(after), set(HOUSE))
        return after


class LeafTest(Kept):
    def test_a_table_as_it_is(self):
        self.assertIsInstance(Leaf("book"), Glass)
        self.assertEqual(Leaf("book").name, "book")
        self.assertEqual(Leaf("book").names(), ("book",))
        self.assertEqual(Leaf("book").form(self.forms), BOOK)
        self.assertEqual(self.got(Leaf("book")), HOUSE["book"])

    def test_what_is_put_stands_and_the_others_stay(self):
        view = (("west", 39, 1),)
        self.assertEqual(self.put(Leaf("book"), view), {**HOUSE, "book": view})
        self.assertEqual(self.put(Leaf("book"), ()), {**HOUSE, "book": ()})

    def test_what_was_got_put_is_a_new_house(self):
        self.assertEqual(self.put(Leaf("book"), HOUSE["book"]), HOUSE)

    def test_no_table(self):
        self.assertEqual(refusal(Leaf("books").form, FORMS), NoTable)
        self.assertEqual(refusal(Leaf("book").form, {}), NoTable)


class OverTest(Kept):
    def test_one_step(self):
        glass = Over(Leaf("book"), Sieve("place", ("number", 0, 9)))
        self.assertIsInstance(glass, Glass)
        self.assertEqual(glass.names(), ("book",))
        self.assertEqual(glass.form(self.forms), Sieve("place", ("number", 0, 9)).view_form(BOOK))
        self.assertEqual(self.got(glass), (("east", 3, 120), ("west", 0, 300)))
        self.assertEqual(self.put(glass, (("east", 4, 5),)), {**HOUSE, "book": (("east", 4, 5), ("east", 21, 80))})

    def test_fields(self):
        leaf, step = Leaf("book"), Step()
        self.assertIs(Over(leaf, step).glass, leaf)
        self.assertIs(Over(leaf, step).step, step)

    def test_several_steps_the_lowest_first(self):
        glass = Over(Over(Over(Leaf("book"), Part("place", 10, "row", "place")), Drop("pages", 7)), Nest(1, "of"))
        inner = ((("row", ("number", 0, 3)), ("place", ("number", 0, 9))), ())
        self.assertEqual(glass.form(self.forms), (BOOK[0][:1], (("of", rows(inner, True)),)))
        self.assertEqual(self.got(glass), (("east", ((0, 3), (2, 1))), ("west", ((0, 0),))))
        self.assertEqual(self.put(glass, (("west", ((0, 0), (3, 9))),)),
                         {**HOUSE, "book": (("west", 0, 300), ("west", 39, 7))})

    def test_a_plain_step(self):
        glass = Over(Leaf("book"), Step())
        self.assertEqual(glass.form(self.forms), BOOK)
        self.assertEqual(self.got(glass), HOUSE["book"])
        self.assertEqual(self.put(glass, ()), {**HOUSE, "book": ()})

    def test_refused_as_its_glass_then_as_its_step(self):
        self.assertEqual(refusal(Over(Leaf("none"), Rename("x", "y")).form, FORMS), NoTable)
        self.assertEqual(refusal(Over(Leaf("book"), Rename("x", "y")).form, FORMS), NoField)
        self.assertEqual(refusal(Over(Over(Leaf("book"), Rename("x", "y")), Unnest("shelf")).form, FORMS), NoField)
        self.assertEqual(refusal(Over(Over(Leaf("book"), Unnest("shelf")), Rename("x", "y")).form, FORMS), NoKind)
        self.assertEqual(refusal(Over(Over(Leaf("book"), Rename("pages", "y")), Rename("pages", "z")).form, FORMS),
                         NoField)


class BothTest(Kept):
    def test_one_pair(self):
        self.assertIsInstance(PRICED, Glass)
        self.assertEqual(PRICED.names(), ("book", "worth"))
        self.assertEqual(PRICED.form(self.forms), Join().view_form(BOOK, WORTH))
        self.assertEqual(self.got(PRICED), (("east", 21, 80, 5),))
        self.assertEqual(self.put(PRICED, (("east", 22, 10, 8),)), {
            "book": (("east", 3, 120), ("east", 22, 10), ("west", 0, 300)), "lent": HOUSE["lent"],
            "worth": (("east", 21, 5), ("east", 22, 8), ("north", 40, 7))})

    def test_fields(self):
        one, other, pair = Leaf("book"), Leaf("worth"), Join()
        both = Both(one, other, pair)
        self.assertIs(both.one, one)
        self.assertIs(both.other, other)
        self.assertIs(both.pair, pair)

    def test_several_pairs_and_steps(self):
        self.assertEqual(ALL.names(), ("book", "worth", "lent"))
        self.assertEqual(ALL.form(self.forms), (
            (("shelf", ("word", ("east",))), ("place", ("number", 20, 39))),
            (("size", ("number", 1, 999)), ("price", DIGIT), ("loans", rows((LENT[0][2:], LENT[1]), False)))))
        self.assertEqual(self.got(ALL), (("east", 21, 80, 5, ((2, "ann"), (8, "bob"))),))
        self.assertEqual(self.put(ALL, (("east", 22, 90, 6, ((5, "ann"),)),)), {
            "book": (("east", 3, 120), ("east", 22, 90), ("west", 0, 300)),
            "lent": (("east", 3, 9, "bob"), ("east", 22, 5, "ann"), ("west", 7, 1, "ann")),
            "worth": HOUSE["worth"]})
        self.assertEqual(self.put(ALL, self.got(ALL)), HOUSE)
        self.assertEqual(ALL.got(FORMS, ALL.put(FORMS, EMPTY, self.got(ALL))), self.got(ALL))

    def test_a_step_over_pairs(self):
        glass = Over(ALL, Sieve("price", ("number", 6, 9)))
        self.assertEqual(self.got(glass), ())
        self.assertEqual(self.put(glass, ()), HOUSE)
        self.assertEqual(self.put(glass, (("east", 21, 1, 9, ()),)), {
            "book": (("east", 3, 120), ("east", 21, 1), ("west", 0, 300)),
            "lent": (("east", 3, 9, "bob"), ("west", 7, 1, "ann")),
            "worth": (("east", 21, 9), ("east", 22, 6), ("north", 40, 7))})

    def test_names_as_often_as_they_stand(self):
        twice = Both(Over(Leaf("lent"), Step()), Both(Leaf("book"), Leaf("lent"), Join()), Join())
        self.assertEqual(twice.names(), ("lent", "book", "lent"))
        self.assertEqual(Over(twice, Rename("a", "b")).names(), ("lent", "book", "lent"))
        self.assertEqual(Both(Leaf("a"), Leaf("a"), Gather("x")).names(), ("a", "a"))

    def test_tables_that_it_does_not_name_stay(self):
        for glass in (Leaf("book"), Over(Leaf("worth"), Drop("price", 0)), PRICED, ALL):
            after = self.put(glass, ())
            for name in HOUSE:
                if name not in glass.names():
                    self.assertEqual(after[name], HOUSE[name])


class BothRefusedTest(unittest.TestCase):
    NO_FIELD = Over(Leaf("book"), Rename("x", "y"))
    NO_KIND = Over(Leaf("worth"), Unnest("price"))
    NO_TABLE = Over(Leaf("none"), Step())

    def refused(self, glass):
        return refusal(glass.form, FORMS)

    def test_the_first_then_the_other(self):
        self.assertEqual(self.refused(Both(self.NO_FIELD, Leaf("worth"), Join())), NoField)
        self.assertEqual(self.refused(Both(Leaf("book"), self.NO_KIND, Join())), NoKind)
        self.assertEqual(self.refused(Both(self.NO_FIELD, self.NO_KIND, Join())), NoField)
        self.assertEqual(self.refused(Both(self.NO_KIND, self.NO_FIELD, Join())), NoKind)
        self.assertEqual(self.refused(Both(self.NO_TABLE, self.NO_FIELD, Join())), NoTable)
        self.assertEqual(self.refused(Both(self.NO_FIELD, self.NO_TABLE, Join())), NoField)

    def test_a_glass_ahead_of_twice(self):
        self.assertEqual(self.refused(Both(self.NO_FIELD, self.NO_FIELD, Join())), NoField)
        self.assertEqual(self.refused(Both(Leaf("book"), self.NO_FIELD, Join())), NoField)
        self.assertEqual(self.refused(Both(Leaf("none"), Leaf("none"), Join())), NoTable)

    def test_twice_ahead_of_the_pair(self):
        self.assertEqual(self.refused(Both(Leaf("book"), Leaf("book"), Join())), Twice)
        self.assertEqual(self.refused(Both(Leaf("book"), Leaf("book"), Gather("x"))), Twice)
        self.assertEqual(self.refused(Both(Leaf("book"), Over(Leaf("book"), Rename("shelf", "s")), Join())), Twice)
        self.assertEqual(self.refused(Both(Both(Leaf("book"), Leaf("worth"), Join()),
                                           Over(Leaf("worth"), Rename("price", "p")), Join())), Twice)
        self.assertEqual(self.refused(Both(Leaf("lent"), PRICED, Join())), NoKind)
        self.assertEqual(self.refused(Both(Over(Leaf("worth"), Rename("price", "p")), PRICED, Join())), Twice)

    def test_then_the_pair(self):
        self.assertEqual(self.refused(Both(Leaf("book"), Leaf("lent"), Join())), NoKind)
        self.assertEqual(self.refused(Both(Over(Leaf("book"), Sieve("place", ("number", 0, 5))), Leaf("worth"), Join())),
                         Nothing)
        self.assertEqual(self.refused(Both(PRICED, Leaf("lent"), Gather("price"))), Twice)
        self.assertIsNone(self.refused(Both(PRICED, Leaf("lent"), Gather("who"))))

    def test_deep_within(self):
        glass = Both(Leaf("lent"), Both(Leaf("book"), Leaf("none"), Join()), Join())
        self.assertEqual(self.refused(Over(Over(glass, Step()), Rename("x", "y"))), NoTable)


class ManyStepsTest(unittest.TestCase):
    def test_a_long_row_of_steps_is_not_slow(self):
        glass = Leaf("a")
        forms = {"a": form_of(COLOR)}
        for unused in range(60):
            glass = Over(Over(glass, Rename("v", "w")), Rename("w", "v"))
        view = tuple([(key, "red") for key in range(10)])
        self.assertEqual(glass.put(forms, {"a": ()}, view), {"a": view})
        self.assertEqual(glass.got(forms, {"a": view}), view)


if __name__ == "__main__":
    unittest.main()
