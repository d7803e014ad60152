import random
import unittest

from laws import check_round_trips, check_step, refusal
from samples import COLOR, DIGIT, ONE, form_of, rows, some_table
from twoglass.changes import changed
from twoglass.drops import Drop
from twoglass.errors import Blind, NoField, NoKey, NoKind
from twoglass.forms import check_form, place_of
from twoglass.steps import Step
from twoglass.tables import keeps

BIT = ("number", 0, 1)
WORD = ("word", ("ab",))
INNER = rows(form_of(COLOR))
FULL = rows(form_of(COLOR), True)
FORM = ((("a", DIGIT), ("s", ONE), ("b", COLOR)), (("c", COLOR), ("in", FULL), ("n", ("number", -9, 9))))


class DropTest(unittest.TestCase):
    def test_a_field_of_the_rest(self):
        inner = ((1, "red"),)
        self.assertEqual(Drop("n", -4).view_form(FORM), (FORM[0], FORM[1][:2]))
        self.assertEqual(Drop("c", "red").view_form(FORM), (FORM[0], FORM[1][1:]))
        table = ((1, 7, "", "blue", inner, 5), (1, 7, "red", "red", inner, -5))
        self.assertEqual(Drop("n", -4).got(FORM, table), ((1, 7, "", "blue", inner), (1, 7, "red", "red", inner)))
        self.assertEqual(Drop("c", "").got(FORM, table), ((1, 7, "", inner, 5), (1, 7, "red", inner, -5)))

    def test_a_single_field_of_the_key(self):
        inner = ((1, "red"),)
        step = Drop("s", 7)
        self.assertEqual(step.view_form(FORM), ((FORM[0][0], FORM[0][2]), FORM[1]))
        table = ((1, 7, "", "blue", inner, 5), (1, 7, "red", "red", inner, -5))
        view = ((1, "", "blue", inner, 5), (1, "red", "red", inner, -5))
        self.assertEqual(step.got(FORM, table), view)
        for before in ((), table, table[1:]):
            self.assertEqual(step.put(FORM, before, view), table)
        self.assertEqual(step.put(FORM, table, ()), ())

    def test_single_ones_first_and_last_in_the_key(self):
        form = ((("s", WORD), ("k", BIT), ("t", ONE)), (("v", BIT),))
        self.assertEqual(Drop("s", "ab").got(form, (("ab", 0, 7, 1), ("ab", 1, 7, 0))), ((0, 7, 1), (1, 7, 0)))
        self.assertEqual(Drop("s", "ab").put(form, (), ((0, 7, 1), (1, 7, 0))), (("ab", 0, 7, 1), ("ab", 1, 7, 0)))
        self.assertEqual(Drop("t", 7).got(form, (("ab", 0, 7, 1), ("ab", 1, 7, 0))), (("ab", 0, 1), ("ab", 1, 0)))
        self.assertEqual(Drop("t", 7).put(form, (), (("ab", 0, 1), ("ab", 1, 0))), (("ab", 0, 7, 1), ("ab", 1, 7, 0)))

    def test_a_put_row_takes_the_value_of_the_row_of_its_key(self):
        form = ((("k", DIGIT), ("l", COLOR)), (("n", DIGIT), ("v", DIGIT)))
        table = ((1, "", 5, 0), (1, "red", 6, 0), (2, "", 7, 0))
        view = ((0, "", 9), (1, "", 8), (1, "blue", 7), (2, "", 0))
        self.assertEqual(Drop("n", 4).put(form, table, view), (
            (0, "", 4, 9), (1, "", 5, 8), (1, "blue", 4, 7), (2, "", 7, 0)))
        self.assertEqual(Drop("v", 4).put(form, table, view), (
            (0, "", 9, 4), (1, "", 8, 0), (1, "blue", 7, 4), (2, "", 0, 0)))
        self.assertEqual(Drop("n", 4).put(form, (), view), (
            (0, "", 4, 9), (1, "", 4, 8), (1, "blue", 4, 7), (2, "", 4, 0)))
        self.assertEqual(Drop("n", 4).put(form, table, ()), ())

    def test_values_that_count_as_nothing_are_taken_too(self):
        form = ((("k", DIGIT),), (("n", DIGIT), ("w", COLOR)))
        self.assertEqual(Drop("n", 4).put(form, ((1, 0, ""),), ((1, "red"),)), ((1, 0, "red"),))
        self.assertEqual(Drop("w", "red").put(form, ((1, 0, ""),), ((1, 5),)), ((1, 5, ""),))

    def test_fields_and_words(self):
        step = Drop("n", 5)
        self.assertIsInstance(step, Step)
        self.assertEqual((step.name, step.value), ("n", 5))
        for value, text in ((5, "5"), (0, "0"), (-12, "-12"), (10 ** 59, "1" + "0" * 59), ("red", ".red"), ("", ".")):
            self.assertEqual(Drop("n", value).words(), ("drop", "n", text))


class DropLawsTest(unittest.TestCase):
    def test_for_all_tables_and_views_of_small_forms(self):
        k, s, v, w = ("k", BIT), ("s", ONE), ("v", BIT), ("w", ("word", ("", "x")))
        for form, step in ((((k,), (v,)), Drop("v", 0)), (((k,), (v, w)), Drop("w", "x")), (((k,), (w, v)), Drop("w", "")),
                           (((k,), (s, v)), Drop("s", 7)), (((s, k), (v,)), Drop("s", 7)), (((k, s), (v,)), Drop("s", 7)),
                           (((k, s, v), ()), Drop("s", 7)), (((s, k), (v,)), Drop("v", 1))):
            check_step(self, step, form)

    def test_exact_and_steady_just_where_the_kind_is_single(self):
        for name, value, told in (("s", 7, True), ("c", "", False), ("n", 0, False)):
            self.assertIs(Drop(name, value).exact(FORM), told)
            self.assertIs(Drop(name, value).steady(FORM), told)
        form = ((("k", BIT),), (("w", WORD), ("n", ("number", -3, -3)), ("m", ("number", -3, -2))))
        for name, value, told in (("w", "ab", True), ("n", -3, True), ("m", -3, False)):
            self.assertIs(Drop(name, value).exact(form), told)
            self.assertIs(Drop(name, value).steady(form), told)

    def test_for_some_tables_of_great_forms(self):
        chance = random.Random(31)
        for step in (Drop("s", 7), Drop("c", "red"), Drop("n", -9)):
            tables = [some_table(chance, FORM, 60) for unused in range(4)]
            views = [some_table(chance, step.view_form(FORM), 60) for unused in range(4)]
            check_round_trips(self, step, FORM, tables, views)


class DropRefusedTest(unittest.TestCase):
    def refused(self, form, *arguments):
        return refusal(Drop(*arguments).view_form, form)

    def test_no_field(self):
        for name in ("x", "k", "v", "ab"):
            self.assertEqual(self.refused(FORM, name, 5), NoField)

    def test_a_kind_rows(self):
        for kind, value in ((INNER, ()), (FULL, ((1, "red"),)), (INNER, 0), (rows(((("k", ONE),), ()), True), ((7,),))):
            self.assertEqual(self.refused(((("k", DIGIT),), (("in", kind),)), "in", value), NoKind)

    def test_a_value_that_is_not_of_the_kind(self):
        form = ((("k", DIGIT), ("s", ONE)), (("n", ("number", -1, 1)), ("w", COLOR)))
        for value in (-2, 2, 10 ** 59, True, False, None, "", "red", "1", (), (1,), [1]):
            self.assertEqual(self.refused(form, "n", value), NoKind)
        for value in ("green", "re", "redd", 0, 1, True, False, None, (), ("red",), ["red"]):
            self.assertEqual(self.refused(form, "w", value), NoKind)
        for value in (6, 8, True, None, ""):
            self.assertEqual(self.refused(form, "s", value), NoKind)
        for name, value in (("n", -1), ("n", 0), ("n", 1), ("w", ""), ("w", "red"), ("s", 7)):
            self.assertIsNone(self.refused(form, name, value))

    def test_the_one_field_of_the_key(self):
        for kind, value in ((DIGIT, 0), (ONE, 7), (COLOR, ""), (WORD, "ab")):
            for others in ((), (("v", DIGIT),)):
                self.assertEqual(self.refused(((("k", kind),), others), "k", value), NoKey)

    def test_in_the_key_and_not_single(self):
        for name, value in (("a", 0), ("b", "red")):
            self.assertEqual(self.refused(FORM, name, value), Blind)

    def test_two_at_once_the_one_told_first(self):
        self.assertEqual(self.refused(FORM, "x", None), NoField)
        self.assertEqual(self.refused(FORM, "a", 10), NoKind)
        self.assertEqual(self.refused(FORM, "b", True), NoKind)
        self.assertEqual(self.refused(((("k", DIGIT),), ()), "k", 10), NoKind)
        self.assertEqual(self.refused(((("k", ONE),), ()), "k", 8), NoKind)
        self.assertEqual(self.refused(((("k", DIGIT),), ()), "k", 9), NoKey)


class BlindTest(unittest.TestCase):
    def looks(self, table, place):
        return {row[:place] + row[place + 1:] for row in table}

    def check(self, form, name, value):
        """Blind is told, with tables and changes as the document asks for."""
        check_form(form)
        many, place = len(form[0]), place_of(form, name)
        with self.assertRaises(Blind) as caught:
            Drop(name, value).view_form(form)
        one, other, change = caught.exception.one, caught.exception.other, caught.exception.change
        for table in (one, other):
            self.assertTrue(keeps(form, table), table)
        self.assertNotEqual(one, other)
        self.assertEqual(self.looks(one, place), self.looks(other, place))
        self.check_changes(many, change)
        behind = [changed(many, table, change) for table in (one, other)]
        for table in behind:
            self.assertTrue(keeps(form, table), table)
        self.assertNotEqual(self.looks(behind[0], place), self.looks(behind[1], place))

    def check_changes(self, many, some):
        self.assertIsInstance(some, tuple)
        keys = [key for key, old, new in some]
        self.assertEqual(keys, sorted(set(keys)))
        for key, old, new in some:
            self.assertEqual(len(key), many)
            self.assertNotEqual(old, new)
            for row in (old, new):
                self.assertTrue(row is None or row[:many] == key)

    def test_numbers_and_words(self):
        for kind, value in ((BIT, 1), (DIGIT, 5), (("number", -5, -4), -4), (("number", -10 ** 60, 10 ** 60), 0),
                            (("word", ("", "a")), ""), (COLOR, "red"), (("word", tuple("abcdefghijkl")), "l")):
            for other in (DIGIT, ONE, COLOR, WORD):
                self.check(((("f", kind), ("g", other)), ()), "f", value)
                self.check(((("g", other), ("f", kind)), (("v", DIGIT),)), "f", value)

    def test_keys_of_two_to_eight_fields_at_each_place(self):
        for many in range(2, 9):
            for place in range(many):
                for others in (ONE, DIGIT, COLOR):
                    for kind, value in ((DIGIT, 9), (COLOR, "")):
                        kinds = [others] * many
                        kinds[place] = kind
                        key = tuple(zip("abcdefgh", kinds))
                        self.check((key, ()), "abcdefgh"[place], value)

    def test_rests_of_none_to_eight_fields_with_inner_tables(self):
        deep = rows(((("k", DIGIT),), (("v", rows(form_of(FULL), True)),)), True)
        kinds = (FULL, DIGIT, deep, COLOR, INNER, ONE, rows(((("k", ONE),), ()), True), WORD)
        for many in range(9):
            rest = tuple(zip("stuvwxyz", kinds[:many]))
            turned = tuple(zip("stuvwxyz", kinds[8 - many:]))
            for name, value in (("a", 3), ("b", "blue")):
                self.check(((("a", DIGIT), ("b", COLOR)), rest), name, value)
                self.check(((("a", DIGIT), ("b", COLOR)), turned), name, value)


if __name__ == "__main__":
    unittest.main()
