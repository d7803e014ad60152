import random
import unittest

from laws import refusal
from samples import COLOR, DIGIT, form_of, rows, some_table, tables_of
from twoglass.errors import NoKind, Nothing, TooMany, Twice
from twoglass.forms import check_form
from twoglass.pairs import Join, Pair
from twoglass.tables import keeps

BIT = ("number", 0, 1)
INNER = rows(form_of(COLOR))
ONE = ((("n", ("number", 0, 9)), ("w", ("word", ("a", "b", "c")))), (("v", DIGIT), ("in", INNER)))
OTHER = ((("n", ("number", 5, 20)), ("w", ("word", ("b", "c", "d")))), (("u", COLOR),))
FORMS = (ONE, OTHER)


def number(low, high):
    return ("number", low, high)


def fields(letters, kind=BIT):
    return tuple([(letter, kind) for letter in letters])


class JoinTest(unittest.TestCase):
    ONES = ((0, "a", 1, ()), (5, "a", 2, ()), (5, "b", 3, ()), (7, "c", 4, ((1, "red"),)), (9, "b", 5, ()))
    OTHERS = ((5, "b", "red"), (6, "b", ""), (7, "c", "blue"), (7, "d", ""), (20, "d", "red"))
    VIEW = ((5, "b", 3, (), "red"), (7, "c", 4, ((1, "red"),), "blue"))

    def put(self, view):
        return Join().put(FORMS, (self.ONES, self.OTHERS), view)

    def test_the_form(self):
        self.assertEqual(Join().view_form(ONE, OTHER), (
            (("n", number(5, 9)), ("w", ("word", ("b", "c")))), (("v", DIGIT), ("in", INNER), ("u", COLOR))))
        self.assertEqual(Join().view_form(OTHER, ONE), (
            (("n", number(5, 9)), ("w", ("word", ("b", "c")))), (("u", COLOR), ("v", DIGIT), ("in", INNER))))
        self.assertEqual(Join().view_form((fields("k"), ()), (fields("k"), ())), (fields("k"), ()))

    def test_keys_whose_kinds_are_not_the_same(self):
        for one, other, told in (((0, 9), (9, 12), (9, 9)), ((0, 9), (3, 4), (3, 4)), ((3, 4), (0, 9), (3, 4)),
                                 ((-5, 0), (-9, -5), (-5, -5))):
            forms = [((("k", number(*kind)),), ()) for kind in (one, other)]
            self.assertEqual(Join().view_form(*forms), ((("k", number(*told)),), ()))

    def test_a_row_for_each_key_that_both_have(self):
        self.assertEqual(Join().got(FORMS, (self.ONES, self.OTHERS)), self.VIEW)
        self.assertEqual(Join().got(FORMS, (self.ONES, ())), ())
        self.assertEqual(Join().got(FORMS, ((), self.OTHERS)), ())
        self.assertEqual(Join().got(FORMS, (self.ONES[:2], self.OTHERS)), ())
        self.assertEqual(Join().got(FORMS, ((), ())), ())

    def test_what_was_got_is_put(self):
        self.assertEqual(self.put(self.VIEW), (self.ONES, self.OTHERS))

    def test_an_empty_view(self):
        self.assertEqual(self.put(()), ((self.ONES[0], self.ONES[1], self.ONES[4]), self.OTHERS))

    def test_a_smaller_view(self):
        self.assertEqual(self.put(self.VIEW[1:]), (self.ONES[:2] + self.ONES[3:], self.OTHERS))

    def test_new_keys_and_new_values(self):
        view = ((5, "b", 0, (), ""), (6, "b", 1, (), "red"), (8, "c", 2, (), "blue"), (9, "b", 6, (), "red"))
        self.assertEqual(self.put(view), (
            ((0, "a", 1, ()), (5, "a", 2, ()), (5, "b", 0, ()), (6, "b", 1, ()), (8, "c", 2, ()), (9, "b", 6, ())),
            ((5, "b", ""), (6, "b", "red"), (7, "c", "blue"), (7, "d", ""), (8, "c", "blue"), (9, "b", "red"),
             (20, "d", "red"))))

    def test_into_empty_tables(self):
        self.assertEqual(Join().put(FORMS, ((), ()), self.VIEW), ((self.ONES[2], self.ONES[3]), (self.OTHERS[0], self.OTHERS[2])))

    def test_words(self):
        self.assertIsInstance(Join(), Pair)
        self.assertEqual(Join().words(), ("join",))


class JoinLawsTest(unittest.TestCase):
    def check(self, forms, ones, others, views):
        told = Join().view_form(*forms)
        check_form(told)
        for one in ones:
            for other in others:
                view = Join().got(forms, (one, other))
                self.assertTrue(keeps(told, view), view)
                self.assertEqual(Join().put(forms, (one, other), view), (one, other))
                for view in views:
                    self.check_put(forms, (one, other), view)

    def check_put(self, forms, tables, view):
        """What the document says of a view that is put, row by row."""
        many = len(forms[0][0])
        after = Join().put(forms, tables, view)
        self.assertIsInstance(after, tuple)
        self.assertTrue(keeps(forms[0], after[0]) and keeps(forms[1], after[1]), after)
        self.assertEqual(Join().got(forms, after), view)
        keys = [[row[:many] for row in table] for table in tables]
        in_view = [row[:many] for row in view]
        stay = [row for row in tables[0] if row[:many] not in keys[1] and row[:many] not in in_view]
        rest = [row for row in tables[1] if row[:many] not in in_view]
        self.assertEqual([row for row in after[0] if row[:many] not in in_view], stay)
        self.assertEqual([row for row in after[1] if row[:many] not in in_view], rest)

    def test_for_all_tables_and_views_of_small_forms(self):
        def keyed(low, high, rest=()):
            return ((("k", number(low, high)),), rest)
        for forms in ((keyed(0, 1), keyed(1, 2, fields("v"))), (keyed(0, 1, fields("v")), keyed(1, 2)),
                      (keyed(0, 2), keyed(1, 1)), (keyed(1, 1), keyed(0, 2)), (keyed(0, 1), keyed(0, 1)),
                      (keyed(0, 1, fields("u")), keyed(0, 1, fields("v"))), ((fields("kl"), ()), (fields("kl"), ()))):
            self.check(forms, tables_of(forms[0]), tables_of(forms[1]), tables_of(Join().view_form(*forms)))

    def test_for_some_tables_of_great_forms(self):
        chance = random.Random(51)
        views = [some_table(chance, Join().view_form(*FORMS), 30) for unused in range(4)]
        ones = [some_table(chance, ONE, 60) for unused in range(4)]
        others = [some_table(chance, OTHER, 60) for unused in range(4)]
        self.check(FORMS, ones, others, views)


class JoinRefusedTest(unittest.TestCase):
    def refused(self, one, other):
        return refusal(Join().view_form, one, other)

    def test_the_keys_names(self):
        for one, other in (("a", "b"), ("ab", "ba"), ("ab", "a"), ("a", "ab"), ("ab", "ac"), ("abc", "acb")):
            self.assertEqual(self.refused((fields(one), ()), (fields(other), ())), NoKind)
        self.assertEqual(self.refused((fields("a"), fields("b")), (fields("b"), fields("a"))), NoKind)

    def test_the_sorts(self):
        self.assertEqual(self.refused((fields("a"), ()), (fields("a", COLOR), ())), NoKind)
        self.assertEqual(self.refused((fields("a", COLOR), ()), (fields("a"), ())), NoKind)
        self.assertEqual(self.refused((fields("ab"), ()), (fields("a") + fields("b", COLOR), ())), NoKind)

    def test_nothing(self):
        for one, other in ((number(0, 4), number(5, 9)), (number(5, 9), number(0, 4)),
                           (("word", ("a", "c")), ("word", ("b", "d"))), (("word", ("",)), ("word", ("a",)))):
            self.assertEqual(self.refused((fields("k", one), ()), (fields("k", other), ())), Nothing)
            self.assertEqual(self.refused((fields("j") + fields("k", one), ()), (fields("j") + fields("k", other), ())),
                             Nothing)
        self.assertIsNone(self.refused((fields("k", number(0, 5)), ()), (fields("k", number(5, 9)), ())))

    def test_twice(self):
        for one, other in (("v", "v"), ("uv", "vw"), ("uvw", "xyu")):
            self.assertEqual(self.refused((fields("k"), fields(one)), (fields("k"), fields(other))), Twice)
        self.assertEqual(self.refused((fields("k"), fields("v")), (fields("k"), fields("v", INNER))), Twice)

    def test_too_many(self):
        for many in range(9):
            for others in range(9):
                due = TooMany if many + others > 8 else None
                one, other = fields("abcdefgh"[:many]), fields("stuvwxyz"[:others])
                self.assertEqual(self.refused((fields("k"), one), (fields("k"), other)), due)

    def test_two_at_once_the_one_told_first(self):
        low, high = number(0, 1), number(2, 3)
        eight = fields("stuvwxyz")
        self.assertEqual(self.refused((fields("ab", low), eight), (fields("ba", high), eight)), NoKind)
        self.assertEqual(self.refused((fields("ab", low), ()), (fields("a", high) + fields("b", COLOR), ())), NoKind)
        self.assertEqual(self.refused((fields("ab", low), ()), (fields("a", COLOR) + fields("b", high), ())), NoKind)
        self.assertEqual(self.refused((fields("a", low), eight), (fields("a", high), eight)), Nothing)
        self.assertEqual(self.refused((fields("a", low), eight), (fields("a", high), fields("b"))), Nothing)
        self.assertEqual(self.refused((fields("a"), eight), (fields("a"), fields("bz"))), Twice)


if __name__ == "__main__":
    unittest.main()
