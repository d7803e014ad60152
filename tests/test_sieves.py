import random
import unittest

from laws import check_round_trips, check_step, refusal
from samples import COLOR, DIGIT, form_of, rows, some_table
from twoglass.errors import NoField, NoKind, Nothing
from twoglass.sieves import Sieve
from twoglass.steps import Step

BIT = ("number", 0, 1)
THREE = ("number", -1, 1)
INNER = rows(form_of(COLOR))
FORM = ((("k", ("number", -9, 9)), ("w", COLOR)), (("n", DIGIT), ("v", COLOR), ("in", INNER)))


def number(low, high):
    return ("number", low, high)


def word(*words):
    return ("word", words)


class SieveTest(unittest.TestCase):
    TABLE = ((-9, "red", 0, "blue", ()), (0, "", 5, "red", ()), (0, "red", 9, "", ()), (4, "blue", 4, "red", ()))

    def check(self, step, kept):
        self.assertEqual(step.got(FORM, self.TABLE), tuple([self.TABLE[k] for k in kept]))

    def test_rows_whose_number_is_of_the_kind(self):
        self.check(Sieve("k", number(0, 4)), (1, 2, 3))
        self.check(Sieve("k", number(-9, -9)), (0,))
        self.check(Sieve("k", number(1, 3)), ())
        self.check(Sieve("n", number(0, 4)), (0, 3))
        self.check(Sieve("n", number(5, 99)), (1, 2))
        self.check(Sieve("n", number(-99, 99)), (0, 1, 2, 3))

    def test_rows_whose_word_is_of_the_kind(self):
        self.check(Sieve("w", word("red")), (0, 2))
        self.check(Sieve("w", word("", "blue", "green")), (1, 3))
        self.check(Sieve("v", word("red")), (1, 3))
        self.check(Sieve("v", word("")), (2,))
        self.check(Sieve("v", word("", "blue", "red")), (0, 1, 2, 3))

    def kind_told(self, own, kind):
        in_key = Sieve("f", kind).view_form(((("f", own), ("g", DIGIT)), (("h", COLOR),)))
        in_rest = Sieve("f", kind).view_form(((("g", DIGIT),), (("h", COLOR), ("f", own), ("i", DIGIT))))
        told = in_key[0][0][1]
        self.assertEqual(in_key, ((("f", told), ("g", DIGIT)), (("h", COLOR),)))
        self.assertEqual(in_rest, ((("g", DIGIT),), (("h", COLOR), ("f", told), ("i", DIGIT))))
        return told

    def test_the_kind_told_of_numbers(self):
        for own, kind, told in (((0, 9), (5, 20), (5, 9)), ((5, 20), (0, 9), (5, 9)), ((0, 9), (3, 4), (3, 4)),
                                ((3, 4), (0, 9), (3, 4)), ((0, 9), (0, 9), (0, 9)), ((0, 9), (9, 20), (9, 9)),
                                ((9, 20), (0, 9), (9, 9)), ((-9, -3), (-5, 5), (-5, -3)),
                                ((-10 ** 60, 10 ** 60), (10 ** 59, 10 ** 61), (10 ** 59, 10 ** 60))):
            self.assertEqual(self.kind_told(number(*own), number(*kind)), number(*told))

    def test_the_kind_told_of_words(self):
        for own, kind, told in ((("a", "b", "c"), ("b", "c", "d"), ("b", "c")), (("a", "b"), ("b", "c"), ("b",)),
                                (("", "a"), ("", "b"), ("",)), (("a",), ("a", "b"), ("a",)),
                                (("a", "c", "e"), ("a", "b", "e"), ("a", "e")), (("a", "b"), ("a", "b"), ("a", "b"))):
            self.assertEqual(self.kind_told(word(*own), word(*kind)), word(*told))

    def test_what_is_put_in_a_field_of_the_key(self):
        step = Sieve("k", number(0, 4))
        view = ((1, "", 1, "", ()), (4, "blue", 9, "", ()))
        self.assertEqual(step.put(FORM, self.TABLE, view), (self.TABLE[0],) + view)
        self.assertEqual(step.put(FORM, self.TABLE, ()), self.TABLE[:1])
        self.assertEqual(step.put(FORM, (), view), view)

    def test_rows_stay_that_were_not_shown_but_those_whose_key_the_view_has(self):
        step = Sieve("n", number(0, 4))
        view = ((-9, "", 1, "", ()), (0, "", 2, "blue", ()), (4, "red", 3, "", ()))
        self.assertEqual(step.put(FORM, self.TABLE, view), (view[0], view[1], self.TABLE[2], view[2]))
        self.assertEqual(step.put(FORM, self.TABLE, ()), self.TABLE[1:3])
        self.assertEqual(step.put(FORM, (), view), view)
        other = Sieve("v", word("red"))
        self.assertEqual(other.put(FORM, self.TABLE, ((-9, "red", 7, "red", ()),)),
                         ((-9, "red", 7, "red", ()), self.TABLE[2]))

    def test_fields_and_words(self):
        step = Sieve("n", number(-5, 12))
        self.assertIsInstance(step, Step)
        self.assertEqual((step.name, step.kind), ("n", number(-5, 12)))
        self.assertEqual(step.words(), ("sieve", "n", "-5", "12"))
        self.assertEqual(Sieve("n", number(0, 0)).words(), ("sieve", "n", "0", "0"))
        self.assertEqual(Sieve("w", word("", "ab", "b")).words(), ("keep", "w", ".", ".ab", ".b"))
        self.assertEqual(Sieve("w", word("keep")).words(), ("keep", "w", ".keep"))


class SieveLawsTest(unittest.TestCase):
    def test_for_all_tables_and_views_of_small_forms(self):
        letters = word("", "a", "b")
        for own, kinds in ((THREE, (number(-1, 1), number(0, 1), number(1, 5), number(-9, 9), number(-9, -1))),
                           (letters, (word("", "a", "b"), word("", "a", "b", "c"), word("a"), word("b", "c")))):
            for kind in kinds:
                step = Sieve("f", kind)
                check_step(self, step, ((("f", own),), (("v", BIT),)))
                check_step(self, step, ((("g", number(3, 3)), ("f", own)), ()))
                check_step(self, step, ((("g", BIT),), (("f", own),)))
                check_step(self, step, ((("g", BIT),), (("v", number(3, 3)), ("f", own))))

    def test_exact_and_steady(self):
        for step, exact, steady in ((Sieve("k", number(-9, 9)), True, True), (Sieve("k", number(-8, 9)), False, True),
                                    (Sieve("k", number(-99, 8)), False, True), (Sieve("n", number(0, 9)), True, True),
                                    (Sieve("n", number(-1, 10)), True, True), (Sieve("n", number(1, 9)), False, False),
                                    (Sieve("n", number(-5, 0)), False, False), (Sieve("w", COLOR), True, True),
                                    (Sieve("w", word("red")), False, True), (Sieve("v", COLOR), True, True),
                                    (Sieve("v", word("", "a", "blue", "red")), True, True),
                                    (Sieve("v", word("", "a", "blue")), False, False)):
            self.assertIs(step.exact(FORM), exact, step.words())
            self.assertIs(step.steady(FORM), steady, step.words())

    def test_for_some_tables_of_great_forms(self):
        chance = random.Random(32)
        for step in (Sieve("k", number(-3, 30)), Sieve("w", word("blue", "red")), Sieve("n", number(2, 3)),
                     Sieve("v", word("", "green"))):
            tables = [some_table(chance, FORM, 60) for unused in range(5)]
            views = [some_table(chance, step.view_form(FORM), 60) for unused in range(5)]
            check_round_trips(self, step, FORM, tables, views)


class SieveRefusedTest(unittest.TestCase):
    def refused(self, name, kind):
        return refusal(Sieve(name, kind).view_form, FORM)

    def test_no_field(self):
        for name in ("x", "kw", "color"):
            self.assertEqual(self.refused(name, DIGIT), NoField)
            self.assertEqual(self.refused(name, COLOR), NoField)

    def test_the_other_sort_and_a_field_of_kind_rows(self):
        for name, kind in (("k", COLOR), ("n", word("")), ("w", DIGIT), ("v", number(0, 0)), ("in", DIGIT), ("in", COLOR)):
            self.assertEqual(self.refused(name, kind), NoKind)

    def test_nothing(self):
        for name, kind in (("k", number(10, 20)), ("k", number(-20, -10)), ("n", number(-5, -1)), ("n", number(10, 10)),
                           ("w", word("a")), ("v", word("re", "redd"))):
            self.assertEqual(self.refused(name, kind), Nothing)
        for name, kind in (("k", number(9, 20)), ("k", number(-20, -9)), ("n", number(-5, 0)), ("v", word("re", "red"))):
            self.assertIsNone(self.refused(name, kind))

    def test_two_at_once_the_one_told_first(self):
        form = ((("k", DIGIT),), ())
        self.assertEqual(refusal(Sieve("x", number(50, 60)).view_form, form), NoField)
        self.assertEqual(refusal(Sieve("x", COLOR).view_form, form), NoField)
        self.assertEqual(refusal(Sieve("k", word("green")).view_form, form), NoKind)


if __name__ == "__main__":
    unittest.main()
