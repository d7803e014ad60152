import random
import unittest

from laws import refusal
from samples import COLOR, DIGIT, form_of, nested, rows, some_table, tables_of
from twoglass.errors import NoKind, Nothing, TooMany, Twice
from twoglass.forms import check_form
from twoglass.gathers import Gather
from twoglass.pairs import Pair
from twoglass.tables import keeps

BIT = ("number", 0, 1)
ABC = ("word", ("a", "b", "c"))


def number(low, high):
    return ("number", low, high)


def fields(letters, kind=BIT):
    return tuple([(letter, kind) for letter in letters])


SHOP = ((("n", number(0, 9)),), (("v", DIGIT),))
SALE = ((("n", number(5, 20)), ("w", ABC)), (("u", COLOR),))
FORMS = (SHOP, SALE)


class GatherTest(unittest.TestCase):
    ONES = ((0, 1), (5, 2), (6, 3), (9, 4))
    OTHERS = ((5, "b", "red"), (7, "a", ""), (7, "c", "blue"), (9, "a", "red"), (9, "b", ""), (15, "a", "red"))
    VIEW = ((5, 2, (("b", "red"),)), (6, 3, ()), (9, 4, (("a", "red"), ("b", ""))))

    def put(self, view):
        return Gather("in").put(FORMS, (self.ONES, self.OTHERS), view)

    def test_the_form(self):
        self.assertEqual(Gather("in").view_form(SHOP, SALE), (
            (("n", number(5, 9)),), (("v", DIGIT), ("in", rows(((("w", ABC),), (("u", COLOR),)), False)))))

    def test_the_name_may_be_one_of_the_other_form(self):
        for name in ("w", "u"):
            self.assertEqual(Gather(name).view_form(SHOP, SALE)[1][1][0], name)

    def test_keys_of_several_fields_and_several_further_ones(self):
        one = ((("n", number(0, 9)), ("w", ABC)), ())
        other = ((("n", number(3, 12)), ("w", ("word", ("b", "c", "d"))), ("x", BIT), ("y", COLOR), ("z", DIGIT)),
                 (("p", BIT), ("q", rows(form_of(BIT)))))
        told = Gather("in").view_form(one, other)
        self.assertEqual(told, ((("n", number(3, 9)), ("w", ("word", ("b", "c")))),
                                (("in", rows((other[0][2:], other[1]), False)),)))
        ones = ((2, "b"), (3, "a"), (3, "b"), (4, "c"))
        others = ((3, "b", 0, "", 5, 1, ()), (3, "b", 0, "red", 4, 0, ((0, 1),)), (3, "b", 1, "", 0, 0, ()),
                  (4, "b", 0, "", 0, 0, ()), (4, "d", 0, "", 0, 0, ()))
        view = ((3, "b", tuple([row[2:] for row in others[:3]])), (4, "c", ()))
        self.assertEqual(Gather("in").got((one, other), (ones, others)), view)
        self.assertEqual(Gather("in").put((one, other), (ones, others), view), (ones, others))
        self.assertEqual(Gather("in").put((one, other), (ones, others), ((4, "b", ()),)), (
            ((2, "b"), (3, "a"), (4, "b")), others[4:]))

    def test_no_row_one_row_and_several_rows_within(self):
        self.assertEqual(Gather("in").got(FORMS, (self.ONES, self.OTHERS)), self.VIEW)
        self.assertEqual(Gather("in").got(FORMS, (self.ONES, ())), ((5, 2, ()), (6, 3, ()), (9, 4, ())))
        self.assertEqual(Gather("in").got(FORMS, ((), self.OTHERS)), ())
        self.assertEqual(Gather("in").got(FORMS, (self.ONES[:1], self.OTHERS)), ())

    def test_what_was_got_is_put(self):
        self.assertEqual(self.put(self.VIEW), (self.ONES, self.OTHERS))

    def test_an_empty_view(self):
        self.assertEqual(self.put(()), (((0, 1),), ((7, "a", ""), (7, "c", "blue"), (15, "a", "red"))))

    def test_a_smaller_view(self):
        self.assertEqual(self.put(self.VIEW[:2]), (
            ((0, 1), (5, 2), (6, 3)), ((5, "b", "red"), (7, "a", ""), (7, "c", "blue"), (15, "a", "red"))))

    def test_new_keys_take_what_begins_with_them(self):
        view = ((5, 9, (("a", ""), ("c", "red"))), (7, 0, (("b", "red"),)), (8, 1, (("c", ""),)))
        self.assertEqual(self.put(view), (
            ((0, 1), (5, 9), (7, 0), (8, 1)),
            ((5, "a", ""), (5, "c", "red"), (7, "b", "red"), (8, "c", ""), (15, "a", "red"))))

    def test_empty_inner_tables(self):
        self.assertEqual(self.put(((5, 2, ()), (7, 3, ()))), (((0, 1), (5, 2), (7, 3)), ((15, "a", "red"),)))

    def test_into_empty_tables(self):
        self.assertEqual(Gather("in").put(FORMS, ((), ()), self.VIEW), (
            self.ONES[1:], (self.OTHERS[0], self.OTHERS[3], self.OTHERS[4])))

    def test_words_and_the_field(self):
        self.assertIsInstance(Gather("in"), Pair)
        self.assertEqual(Gather("in").words(), ("gather", "in"))
        self.assertEqual(Gather("in").name, "in")


class GatherLawsTest(unittest.TestCase):
    def check(self, forms, ones, others, views):
        told = Gather("in").view_form(*forms)
        check_form(told)
        for one in ones:
            for other in others:
                view = Gather("in").got(forms, (one, other))
                self.assertTrue(keeps(told, view), view)
                self.assertEqual(Gather("in").put(forms, (one, other), view), (one, other))
                for view in views:
                    self.check_put(forms, (one, other), view)

    def check_put(self, forms, tables, view):
        """What the document says of a view that is put, row by row."""
        many = len(forms[0][0])
        shown = [row[:many] for row in Gather("in").got(forms, tables)]
        after = Gather("in").put(forms, tables, view)
        self.assertIsInstance(after, tuple)
        self.assertTrue(keeps(forms[0], after[0]) and keeps(forms[1], after[1]), after)
        self.assertEqual(Gather("in").got(forms, after), view)
        in_view = [row[:many] for row in view]
        stay = [row for row in tables[0] if row[:many] not in shown]
        rest = [row for row in tables[1] if row[:many] not in in_view and row[:many] not in shown]
        self.assertEqual([row for row in after[0] if row[:many] not in in_view], stay)
        self.assertEqual([row for row in after[1] if row[:many] not in in_view], rest)

    def test_for_all_tables_and_views_of_small_forms(self):
        def keyed(low, high, *more):
            return (("k", number(low, high)),) + more
        single = ("l", number(3, 3))
        for forms in (((keyed(0, 1), ()), (keyed(1, 2, single), fields("v"))),
                      ((keyed(0, 2), ()), (keyed(1, 1, ("l", BIT)), ())),
                      ((keyed(1, 1), fields("v")), (keyed(0, 2, single), ())),
                      ((keyed(0, 1), ()), (keyed(0, 1, single, ("m", BIT)), ())),
                      ((keyed(0, 1, single), ()), (keyed(0, 1, single, ("m", BIT)), ()))):
            self.check(forms, tables_of(forms[0]), tables_of(forms[1]), tables_of(Gather("in").view_form(*forms)))

    def test_for_some_tables_of_great_forms(self):
        chance = random.Random(52)
        views = [some_table(chance, Gather("in").view_form(*FORMS), 30) for unused in range(4)]
        ones = [some_table(chance, SHOP, 60) for unused in range(4)]
        others = [some_table(chance, SALE, 60) for unused in range(4)]
        self.check(FORMS, ones, others, views)


class GatherRefusedTest(unittest.TestCase):
    def refused(self, one, other, name="in"):
        return refusal(Gather(name).view_form, one, other)

    def test_the_keys_names(self):
        for one, other in (("a", "ba"), ("ab", "bac"), ("ab", "acb"), ("ab", "xyz"), ("abc", "abdc"), ("a", "bcd")):
            self.assertEqual(self.refused((fields(one), ()), (fields(other), ())), NoKind)
        for one, other in (("a", "ab"), ("ab", "abc"), ("a", "abcdefgh"), ("abcdefg", "abcdefgh")):
            self.assertIsNone(self.refused((fields(one), ()), (fields(other), ())))

    def test_no_more_fields(self):
        for one, other in (("a", "a"), ("ab", "ab"), ("ab", "a"), ("abcdefgh", "abcdefgh"), ("abc", "a")):
            self.assertEqual(self.refused((fields(one), ()), (fields(other), fields("z"))), NoKind)

    def test_the_sorts(self):
        self.assertEqual(self.refused((fields("a"), ()), (fields("a", COLOR) + fields("b"), ())), NoKind)
        self.assertEqual(self.refused((fields("a", COLOR), ()), (fields("ab"), ())), NoKind)
        self.assertEqual(self.refused((fields("ab"), ()), (fields("a") + fields("b", COLOR) + fields("c"), ())), NoKind)

    def test_nothing(self):
        for one, other in ((number(0, 4), number(5, 9)), (number(5, 9), number(0, 4)),
                           (("word", ("a", "c")), ("word", ("b", "d"))), (("word", ("",)), ("word", ("a",)))):
            self.assertEqual(self.refused((fields("k", one), ()), (fields("k", other) + fields("l"), ())), Nothing)
            self.assertEqual(self.refused((fields("j") + fields("k", one), ()),
                                          (fields("j") + fields("k", other) + fields("l"), ())), Nothing)
        self.assertIsNone(self.refused((fields("k", number(0, 5)), ()), (fields("k", number(5, 9)) + fields("l"), ())))

    def test_twice(self):
        one, other = (fields("kl"), fields("uv")), (fields("klm"), fields("xy"))
        for name, due in (("k", Twice), ("l", Twice), ("u", Twice), ("v", Twice), ("m", None), ("x", None), ("z", None)):
            self.assertEqual(self.refused(one, other, name), due)

    def test_too_many_fields(self):
        for many in range(9):
            due = TooMany if many == 8 else None
            one = (fields("k"), fields("abcdefgh"[:many]))
            self.assertEqual(self.refused(one, (fields("kl"), fields("stuvwxyz"))), due)

    def test_too_many_within_one_another(self):
        for many in range(4):
            inner = nested(many)
            other = (fields("k") + fields("l"), inner[1])
            self.assertEqual(self.refused((fields("k"), ()), other), TooMany if many == 3 else None)
            self.assertIsNone(self.refused((fields("k"), inner[1]), (fields("kl"), ())))

    def test_two_at_once_the_one_told_first(self):
        low, high = number(0, 1), number(2, 3)
        eight = fields("stuvwxyz")
        deep = nested(3)[1]
        self.assertEqual(self.refused((fields("k", low), eight), (fields("k", high), eight), "k"), NoKind)
        self.assertEqual(self.refused((fields("k", low), ()), (fields("j", high) + fields("l"), ()), "k"), NoKind)
        self.assertEqual(self.refused((fields("jk", low), ()),
                                      (fields("j", high) + fields("k", COLOR) + fields("l"), ())), NoKind)
        self.assertEqual(self.refused((fields("k", low), eight), (fields("k", high) + fields("l"), deep), "k"), Nothing)
        self.assertEqual(self.refused((fields("k"), eight), (fields("kl"), ()), "s"), Twice)
        self.assertEqual(self.refused((fields("k"), ()), (fields("kl"), deep), "k"), Twice)


if __name__ == "__main__":
    unittest.main()
