import random
import unittest

from laws import check_round_trips, check_step, refusal
from samples import COLOR, DIGIT, form_of, nested, rows, some_table, tables_of
from twoglass.errors import NoField, NoKey, NoKind, TooMany, Twice
from twoglass.nests import Nest, Unnest
from twoglass.steps import Step
from twoglass.tables import keeps

BIT = ("number", 0, 1)
ONE = ("number", 3, 3)
DEEP = rows(nested(1))
FORM = ((("a", DIGIT), ("b", COLOR), ("c", DIGIT)), (("d", COLOR), ("e", DEEP)))


def fields(letters, kind=BIT):
    return tuple([(letter, kind) for letter in letters])


class NestTest(unittest.TestCase):
    TABLE = ((1, "", 1, "red", ()), (1, "", 2, "blue", ()), (1, "red", 1, "", ()), (2, "blue", 9, "", ()))

    def test_rows_alike_in_the_first_values_are_one(self):
        step = Nest(1, "in")
        self.assertEqual(step.view_form(FORM), (FORM[0][:1], (("in", rows((FORM[0][1:], FORM[1]), True)),)))
        view = ((1, (("", 1, "red", ()), ("", 2, "blue", ()), ("red", 1, "", ()))), (2, (("blue", 9, "", ()),)))
        self.check(step, view)

    def test_in_the_first_two(self):
        step = Nest(2, "in")
        self.assertEqual(step.view_form(FORM), (FORM[0][:2], (("in", rows((FORM[0][2:], FORM[1]), True)),)))
        view = ((1, "", ((1, "red", ()), (2, "blue", ()))), (1, "red", ((1, "", ()),)), (2, "blue", ((9, "", ()),)))
        self.check(step, view)

    def check(self, step, view):
        self.assertEqual(step.got(FORM, self.TABLE), view)
        for before in ((), self.TABLE, self.TABLE[1:]):
            self.assertEqual(step.put(FORM, before, view), self.TABLE)
        self.assertEqual(step.put(FORM, self.TABLE, view[1:]), step.put(FORM, (), view[1:]))
        self.assertEqual(step.put(FORM, self.TABLE, ()), ())
        self.assertEqual(step.got(FORM, ()), ())

    def test_what_is_put(self):
        view = ((0, (("red", 5, "", ()),)), (1, (("", 2, "red", ()), ("red", 0, "", ()))))
        self.assertEqual(Nest(1, "in").put(FORM, self.TABLE, view), (
            (0, "red", 5, "", ()), (1, "", 2, "red", ()), (1, "red", 0, "", ())))

    def test_one_to_seven_of_eight_fields(self):
        key = fields("abcdefgh")
        table = ((0,) * 8, (0,) * 7 + (1,), (1,) * 8)
        for many in range(1, 8):
            step = Nest(many, "in")
            self.assertEqual(step.view_form((key, ())), (key[:many], (("in", rows((key[many:], ()), True)),)))
            view = ((0,) * many + (((0,) * (8 - many), (0,) * (7 - many) + (1,)),), (1,) * many + (((1,) * (8 - many),),))
            self.assertEqual(step.got((key, ()), table), view)
            self.assertEqual(step.put((key, ()), (), view), table)

    def test_inner_tables_without_a_rest(self):
        form = (fields("ab"), ())
        self.assertEqual(Nest(1, "in").view_form(form), (fields("a"), (("in", rows((fields("b"), ()), True)),)))
        self.assertEqual(Nest(1, "in").got(form, ((0, 0), (0, 1), (1, 1))), ((0, ((0,), (1,))), (1, ((1,),))))

    def test_the_name_of_a_further_field_again(self):
        for name in "bcde":
            self.assertEqual(Nest(1, name).view_form(FORM)[1][0][0], name)
        for name in "cde":
            self.assertEqual(Nest(2, name).view_form(FORM)[1][0][0], name)
        check_step(self, Nest(1, "b"), (fields("ab"), ()))
        check_step(self, Nest(1, "v"), ((("a", BIT), ("b", ONE)), fields("v")))

    def test_fields_and_words(self):
        step = Nest(2, "in")
        self.assertIsInstance(step, Step)
        self.assertEqual((step.many, step.name), (2, "in"))
        self.assertEqual(step.words(), ("nest", "2", "in"))
        self.assertEqual(Nest(-1, "in").words(), ("nest", "-1", "in"))

    def test_laws(self):
        check_step(self, Nest(1, "in"), ((("a", BIT), ("b", ("word", ("", "x")))), ()))
        check_step(self, Nest(1, "in"), ((("a", BIT), ("b", ONE)), (("v", BIT),)))
        check_step(self, Nest(2, "in"), ((("a", BIT), ("b", ONE), ("c", BIT)), ()))
        chance = random.Random(41)
        for many in (1, 2):
            step = Nest(many, "in")
            self.assertIs(step.exact(FORM), True)
            self.assertIs(step.steady(FORM), True)
            tables = [some_table(chance, FORM, 60) for unused in range(5)]
            views = [some_table(chance, step.view_form(FORM), 20) for unused in range(5)]
            check_round_trips(self, step, FORM, tables, views)


class NestRefusedTest(unittest.TestCase):
    def refused(self, form, *arguments):
        return refusal(Nest(*arguments).view_form, form)

    def test_no_key(self):
        for many in (0, -1, -2, 3, 4, 9, 10 ** 59, True, None, "1"):
            self.assertEqual(self.refused(FORM, many, "in"), NoKey)
        for many in (0, 1, 2, -1):
            self.assertEqual(self.refused(form_of(DIGIT), many, "in"), NoKey)
        for many in (1, 2):
            self.assertIsNone(self.refused(FORM, many, "in"))

    def test_twice(self):
        self.assertEqual(self.refused(FORM, 1, "a"), Twice)
        for name in "ab":
            self.assertEqual(self.refused(FORM, 2, name), Twice)
        self.assertIsNone(self.refused(FORM, 1, "b"))

    def test_too_many(self):
        key = fields("ab")
        for some in (True, False):
            for depth in range(3):
                self.assertIsNone(self.refused((key, nested(depth, some)[1]), 1, "in"))
            self.assertEqual(self.refused((key, nested(3, some)[1]), 1, "in"), TooMany)
        self.assertEqual(self.refused((key, (("u", BIT), ("v", rows(nested(2))), ("w", BIT))), 1, "in"), TooMany)

    def test_two_at_once_the_one_told_first(self):
        deep = (fields("ab"), nested(3)[1])
        self.assertEqual(self.refused(deep, 0, "a"), NoKey)
        self.assertEqual(self.refused(deep, 2, "in"), NoKey)
        self.assertEqual(self.refused(deep, 1, "a"), Twice)


class UnnestTest(unittest.TestCase):
    def form(self, some):
        return (FORM[0][:1], (("in", rows(((("l", DIGIT), ("m", COLOR)), (("n", DIGIT), ("o", DEEP))), some)),))

    def test_a_row_for_each_inner_row(self):
        for some in (True, False):
            form = self.form(some)
            told = ((("a", DIGIT), ("l", DIGIT), ("m", COLOR)), (("n", DIGIT), ("o", DEEP)))
            self.assertEqual(Unnest("in").view_form(form), told)
            table = ((1, ((1, "", 5, ()), (1, "red", 6, ()))), (4, ((0, "", 7, ()),)))
            view = ((1, 1, "", 5, ()), (1, 1, "red", 6, ()), (4, 0, "", 7, ()))
            self.assertEqual(Unnest("in").got(form, table), view)
            for before in ((), table, table[1:]):
                self.assertEqual(Unnest("in").put(form, before, view), table)
            self.assertEqual(Unnest("in").put(form, table, view[1:2]), ((1, ((1, "red", 6, ()),)),))
            self.assertEqual(Unnest("in").put(form, table, ()), ())
            self.assertEqual(Unnest("in").got(form, ()), ())

    def test_the_inner_fields_name_within(self):
        form = (fields("a"), (("in", rows(((("in", BIT),), ()), True)),))
        self.assertEqual(Unnest("in").view_form(form), ((("a", BIT), ("in", BIT)), ()))
        self.assertEqual(Unnest("in").got(form, ((0, ((0,), (1,))), (1, ((1,),)))), ((0, 0), (0, 1), (1, 1)))

    def test_rows_with_an_empty_one(self):
        form = self.form(False)
        row = (1, "", 5, ())
        table = ((0, ()), (1, (row,)), (2, ()), (3, ()), (5, (row,)))
        self.assertEqual(Unnest("in").got(form, table), ((1,) + row, (5,) + row))
        view = ((2,) + row, (4,) + row)
        self.assertEqual(Unnest("in").put(form, table, view), ((0, ()), (2, (row,)), (3, ()), (4, (row,))))
        self.assertEqual(Unnest("in").put(form, table, ()), ((0, ()), (2, ()), (3, ())))

    def test_fields_and_words(self):
        step = Unnest("in")
        self.assertIsInstance(step, Step)
        self.assertEqual(step.name, "in")
        self.assertEqual(step.words(), ("unnest", "in"))

    def test_laws(self):
        for some in (True, False):
            check_step(self, Unnest("in"), ((("a", BIT),), (("in", rows(((("b", BIT),), ()), some)),)))
            check_step(self, Unnest("in"), ((("a", BIT),), (("in", rows(((("b", ONE),), (("v", BIT),)), some)),)))
            check_step(self, Unnest("in"), ((("a", BIT), ("c", ONE)), (("in", rows(((("b", ONE),), ()), some)),)))
            form = self.form(some)
            self.assertIs(Unnest("in").exact(form), some)
            self.assertIs(Unnest("in").steady(form), some)
            chance = random.Random(42)
            tables = [some_table(chance, form, 60) for unused in range(5)]
            views = [some_table(chance, Unnest("in").view_form(form), 60) for unused in range(5)]
            check_round_trips(self, Unnest("in"), form, tables, views)


class UnnestRefusedTest(unittest.TestCase):
    def refused(self, form, name="in"):
        return refusal(Unnest(name).view_form, form)

    def test_no_field(self):
        form = (fields("a"), (("in", rows((fields("b"), ()))),))
        for name in ("x", "b", "i", "inn"):
            self.assertEqual(self.refused(form, name), NoField)
        self.assertIsNone(self.refused(form))

    def test_no_kind(self):
        inner = ("in", rows((fields("b"), ())))
        for form, name in (((fields("a"), (inner,)), "a"), ((fields("a"), ()), "a"), ((fields("a"), fields("v")), "v"),
                           ((fields("a"), fields("v", COLOR)), "v"), ((fields("a"), (inner, ("v", BIT))), "in"),
                           ((fields("a"), (("v", BIT), inner)), "in"), ((fields("a"), (("v", BIT), inner)), "v"),
                           ((fields("a"), (inner, ("on", inner[1]))), "in")):
            self.assertEqual(self.refused(form, name), NoKind)

    def test_twice(self):
        for inner in ((fields("a"), ()), (fields("ba"), ()), (fields("b"), fields("a")), (fields("c"), fields("db"))):
            self.assertEqual(self.refused((fields("ab"), (("in", rows(inner)),))), Twice)
        self.assertIsNone(self.refused((fields("ab"), (("in", rows((fields("c"), fields("d")))),))))

    def test_too_many(self):
        for many in range(1, 9):
            for others in range(1, 9):
                inner = rows((fields("stuvwxyz"[:others]), fields("ijklmnop")))
                due = TooMany if many + others > 8 else None
                self.assertEqual(self.refused((fields("abcdefgh"[:many]), (("in", inner),))), due)

    def test_two_at_once_the_one_told_first(self):
        full = ("in", rows((fields("abcdefgh"), ())))
        self.assertEqual(self.refused((fields("a"), (full, ("v", BIT))), "x"), NoField)
        self.assertEqual(self.refused((fields("a"), (full, ("v", BIT)))), NoKind)
        self.assertEqual(self.refused((fields("a"), (full,))), Twice)
        self.assertEqual(self.refused((fields("i"), (full,))), TooMany)


class ThereAndBackTest(unittest.TestCase):
    def test_nest_and_then_unnest_leave_the_table_as_it_is(self):
        chance = random.Random(43)
        for many in (1, 2):
            middle = Nest(many, "in").view_form(FORM)
            self.assertEqual(Unnest("in").view_form(middle), FORM)
            for unused in range(20):
                table = some_table(chance, FORM, 60)
                self.assertEqual(Unnest("in").got(middle, Nest(many, "in").got(FORM, table)), table)

    def test_unnest_and_then_nest_where_none_is_empty(self):
        for some in (True, False):
            form = ((("a", BIT),), (("in", rows(((("b", BIT),), (("v", BIT),)), some)),))
            middle = Unnest("in").view_form(form)
            self.assertEqual(Nest(1, "in").view_form(middle), ((("a", BIT),), (("in", ("rows", form[1][0][1][1], True)),)))
            for table in tables_of(form):
                kept = tuple([row for row in table if row[1]])
                self.assertEqual(Nest(1, "in").got(middle, Unnest("in").got(form, table)), kept)

    def test_views_keep_the_forms_told(self):
        table = NestTest.TABLE
        self.assertTrue(keeps(Nest(1, "in").view_form(FORM), Nest(1, "in").got(FORM, table)))


if __name__ == "__main__":
    unittest.main()
