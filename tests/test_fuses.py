import random
import unittest

from laws import check_round_trips, check_step, refusal
from samples import COLOR, DIGIT, form_of, rows, some_table
from twoglass.errors import NoField, NoKind, Twice
from twoglass.parts import Fuse, Part
from twoglass.steps import Step

BIT = ("number", 0, 1)
HIGH = ("number", -3, 2)
INNER = rows(form_of(COLOR), True)
BEHIND = ((("a", COLOR), ("q", HIGH), ("r", DIGIT), ("b", BIT)), (("c", INNER),))
FURTHER = ((("q", HIGH), ("a", COLOR), ("r", DIGIT)), (("c", INNER),))
AHEAD = ((("r", DIGIT), ("a", COLOR), ("q", HIGH)), ())
RESTED = ((("a", COLOR),), (("q", HIGH), ("c", INNER), ("r", DIGIT)))
TURNED = ((("a", COLOR),), (("r", DIGIT), ("c", INNER), ("q", HIGH)))
NUMBERS = ("number", -30, 29)


class FuseTest(unittest.TestCase):
    STEP = Fuse("q", "r", 10, "n")

    def check(self, form, told, table, view):
        self.assertEqual(self.STEP.view_form(form), told)
        self.assertEqual(self.STEP.got(form, table), view)
        for before in ((), table, table[1:], table[:1]):
            self.assertEqual(self.STEP.put(form, before, view), table)
        self.assertEqual(self.STEP.put(form, table, ()), ())

    def test_in_the_key_the_rest_right_behind(self):
        inner = ((1, "red"),)
        self.check(BEHIND, ((("a", COLOR), ("n", NUMBERS), ("b", BIT)), (("c", INNER),)),
                   (("", -3, 0, 1, inner), ("", -1, 9, 0, inner), ("", 0, 4, 0, inner), ("red", 2, 9, 1, inner)),
                   (("", -30, 1, inner), ("", -1, 0, inner), ("", 4, 0, inner), ("red", 29, 1, inner)))

    def test_in_the_key_the_rest_further_off(self):
        inner = ((1, "red"),)
        self.check(FURTHER, ((("n", NUMBERS), ("a", COLOR)), (("c", INNER),)),
                   ((-3, "", 5, inner), (-3, "red", 4, inner), (2, "", 1, inner), (2, "red", 0, inner)),
                   ((-26, "red", inner), (-25, "", inner), (20, "red", inner), (21, "", inner)))

    def test_in_the_key_the_rest_ahead(self):
        self.check(AHEAD, ((("a", COLOR), ("n", NUMBERS)), ()),
                   ((0, "red", 2), (1, "", -3), (1, "red", -1), (5, "", -3), (7, "", 0)),
                   (("", -29), ("", -25), ("", 7), ("red", -9), ("red", 20)))

    def test_in_the_rest(self):
        inner = ((1, "red"),)
        self.check(RESTED, ((("a", COLOR),), (("n", NUMBERS), ("c", INNER))),
                   (("", -3, inner, 7), ("red", 2, inner, 0)), (("", -23, inner), ("red", 20, inner)))
        self.check(TURNED, ((("a", COLOR),), (("c", INNER), ("n", NUMBERS))),
                   (("", 7, inner, -3), ("red", 0, inner, 2)), (("", inner, -23), ("red", inner, 20)))

    def test_the_whole_key(self):
        form = ((("r", DIGIT), ("q", HIGH)), (("v", BIT),))
        self.check(form, ((("n", NUMBERS),), (("v", BIT),)), ((1, 2, 0), (2, 1, 1)), ((12, 1), (21, 0)))

    def test_the_kinds_told(self):
        for low, high, by, lowest, highest in ((0, 0, 2, 0, 1), (-1, -1, 2, -2, -1), (-3, 2, 7, -21, 20),
                                               (5, 9, 10 ** 9, 5 * 10 ** 9, 10 ** 10 - 1)):
            form = ((("q", ("number", low, high)), ("r", ("number", 0, by - 1))), ())
            told = ((("n", ("number", lowest, highest)),), ())
            self.assertEqual(Fuse("q", "r", by, "n").view_form(form), told)

    def test_numbers_of_sixty_figures_and_more(self):
        most, by = 10 ** 60 - 1, 10 ** 9
        form = ((("r", ("number", 0, by - 1)), ("q", ("number", -most, most))), ())
        step = Fuse("q", "r", by, "n")
        self.assertEqual(step.view_form(form), ((("n", ("number", -most * by, 10 ** 69 - 1)),), ()))
        table = ((0, -most), (0, most), (by - 1, -most), (by - 1, most))
        view = ((-most * by,), (-most * by + by - 1,), (most * by,), (10 ** 69 - 1,))
        self.assertEqual(step.got(form, table), view)
        self.assertEqual(step.put(form, (), view), table)

    def test_the_name_of_either_again(self):
        self.assertEqual(Fuse("q", "r", 10, "q").view_form(AHEAD), ((("a", COLOR), ("q", NUMBERS)), ()))
        self.assertEqual(Fuse("q", "r", 10, "r").view_form(AHEAD), ((("a", COLOR), ("r", NUMBERS)), ()))
        self.assertEqual(Fuse("q", "r", 10, "r").got(AHEAD, ((3, "", -2),)), (("", -17),))

    def test_fields_and_words(self):
        step = Fuse("q", "r", 12, "n")
        self.assertIsInstance(step, Step)
        self.assertEqual((step.quotient, step.rest, step.by, step.name), ("q", "r", 12, "n"))
        self.assertEqual(step.words(), ("fuse", "q", "r", "12", "n"))
        self.assertEqual(Fuse("q", "r", -1, "n").words(), ("fuse", "q", "r", "-1", "n"))


class FuseLawsTest(unittest.TestCase):
    def test_for_all_tables_and_views_of_small_forms(self):
        q, r, a, v = ("q", ("number", -1, 0)), ("r", BIT), ("a", BIT), ("v", ("number", 3, 3))
        one = ("a", ("number", 0, 0))
        for form in (((q, r), (v,)), ((r, q), (v,)), ((q, one, r), ()), ((r, one, q), ()), ((one, r, q), ()),
                     ((a,), (q, r)), ((a,), (r, q)), ((a,), (r, v, q)), ((a,), (q, v, r))):
            for name in "nqr":
                check_step(self, Fuse("q", "r", 2, name), form)

    def test_for_some_tables_of_great_forms(self):
        chance = random.Random(22)
        for form in (BEHIND, FURTHER, AHEAD, RESTED, TURNED):
            step = Fuse("q", "r", 10, "n")
            tables = [some_table(chance, form, 60) for unused in range(4)]
            views = [some_table(chance, step.view_form(form), 60) for unused in range(4)]
            check_round_trips(self, step, form, tables, views)
            self.assertIs(step.exact(form), True)
            self.assertIs(step.steady(form), True)

    def test_behind_part_it_leaves_the_table_as_it_is(self):
        form = ((("a", BIT), ("n", NUMBERS)), ())
        part, fuse = Part("n", 6, "q", "r"), Fuse("q", "r", 6, "n")
        middle = part.view_form(form)
        self.assertEqual(fuse.view_form(middle), form)
        table = tuple([(a, n) for a in (0, 1) for n in range(-30, 30)])
        self.assertEqual(fuse.got(middle, part.got(form, table)), table)


class FuseRefusedTest(unittest.TestCase):
    def refused(self, form, *arguments):
        return refusal(Fuse(*arguments).view_form, form)

    def test_no_field(self):
        for quotient, rest in (("x", "r"), ("q", "x"), ("x", "y"), ("x", "x"), ("k", "r"), ("q", "v")):
            self.assertEqual(self.refused(BEHIND, quotient, rest, 10, "n"), NoField)
            self.assertEqual(self.refused(RESTED, quotient, rest, 10, "n"), NoField)

    def test_both_one_field(self):
        for form in (BEHIND, RESTED):
            self.assertEqual(self.refused(form, "r", "r", 10, "n"), NoKind)
            self.assertEqual(self.refused(form, "q", "q", 10, "n"), NoKind)

    def test_no_number(self):
        for quotient, rest in (("a", "r"), ("q", "a"), ("a", "a")):
            self.assertEqual(self.refused(BEHIND, quotient, rest, 10, "n"), NoKind)
        for quotient, rest in (("c", "r"), ("q", "c")):
            self.assertEqual(self.refused(RESTED, quotient, rest, 10, "n"), NoKind)

    def test_one_in_the_key_and_the_other_not(self):
        self.assertEqual(self.refused(((("q", HIGH),), (("r", DIGIT),)), "q", "r", 10, "n"), NoKind)
        self.assertEqual(self.refused(((("r", DIGIT),), (("q", HIGH),)), "q", "r", 10, "n"), NoKind)
        self.assertEqual(self.refused(((("r", DIGIT), ("s", DIGIT)), (("q", HIGH),)), "q", "r", 10, "n"), NoKind)

    def test_by_beyond_its_bounds(self):
        for by in (1, 0, -1, -10, 10 ** 9 + 1):
            form = ((("q", HIGH), ("r", ("number", 0, max(by - 1, 0)))), ())
            self.assertEqual(self.refused(form, "q", "r", by, "n"), NoKind)
        for by in (2, 10 ** 9):
            form = ((("q", HIGH), ("r", ("number", 0, by - 1))), ())
            self.assertIsNone(self.refused(form, "q", "r", by, "n"))

    def test_the_rests_kind(self):
        for kind in (("number", 0, 8), ("number", 0, 10), ("number", 1, 9), ("number", -1, 9), ("number", 1, 10)):
            self.assertEqual(self.refused(((("q", HIGH), ("r", kind)), ()), "q", "r", 10, "n"), NoKind)
            self.assertEqual(self.refused(((("a", COLOR),), (("r", kind), ("q", HIGH))), "q", "r", 10, "n"), NoKind)

    def test_twice(self):
        for name in "abc":
            self.assertEqual(self.refused(BEHIND, "q", "r", 10, name), Twice)
        for form in (FURTHER, RESTED, TURNED):
            for name in "ac":
                self.assertEqual(self.refused(form, "q", "r", 10, name), Twice)
        for form in (BEHIND, FURTHER, AHEAD, RESTED, TURNED):
            for name in "qrnkv":
                self.assertIsNone(self.refused(form, "q", "r", 10, name))

    def test_two_at_once_the_one_told_first(self):
        self.assertEqual(self.refused(BEHIND, "x", "a", 10, "b"), NoField)
        self.assertEqual(self.refused(BEHIND, "a", "x", 1, "b"), NoField)
        self.assertEqual(self.refused(BEHIND, "q", "a", 10, "b"), NoKind)
        self.assertEqual(self.refused(BEHIND, "q", "r", 9, "a"), NoKind)
        self.assertEqual(self.refused(BEHIND, "q", "r", 1, "a"), NoKind)


if __name__ == "__main__":
    unittest.main()
