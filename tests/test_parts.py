import random
import unittest

from laws import check_round_trips, check_step, refusal
from samples import COLOR, DIGIT, form_of, rows, some_table
from twoglass.errors import NoField, NoKind, TooMany, Torn, Twice
from twoglass.forms import check_form
from twoglass.parts import Part
from twoglass.steps import Step
from twoglass.tables import keeps

BIT = ("number", 0, 1)
INNER = rows(form_of(COLOR), True)
KEYED = ((("a", COLOR), ("n", ("number", -20, 19)), ("b", DIGIT)), (("c", INNER), ("d", DIGIT)))
RESTED = ((("a", COLOR), ("b", DIGIT)), (("c", INNER), ("n", ("number", -20, 19)), ("d", DIGIT)))


def number(low, high):
    return ("number", low, high)


def fields(letters, kind=BIT):
    return tuple([(letter, kind) for letter in letters])


class PartTest(unittest.TestCase):
    def test_in_the_key(self):
        step = Part("n", 10, "q", "r")
        self.assertEqual(step.view_form(KEYED), (
            (("a", COLOR), ("q", number(-2, 1)), ("r", number(0, 9)), ("b", DIGIT)), KEYED[1]))
        inner = ((1, "red"),)
        table = (("", -20, 1, inner, 0), ("", -11, 1, inner, 1), ("", 19, 0, inner, 2), ("red", 7, 3, inner, 3))
        view = (("", -2, 0, 1, inner, 0), ("", -2, 9, 1, inner, 1), ("", 1, 9, 0, inner, 2), ("red", 0, 7, 3, inner, 3))
        self.assertEqual(step.got(KEYED, table), view)
        self.assertEqual(step.put(KEYED, (), view), table)
        self.assertEqual(step.put(KEYED, table[:2], view), table)
        self.assertEqual(step.put(KEYED, table, view[1:3]), table[1:3])

    def test_in_the_rest(self):
        step = Part("n", 10, "q", "r")
        self.assertEqual(step.view_form(RESTED), (
            RESTED[0], (("c", INNER), ("q", number(-2, 1)), ("r", number(0, 9)), ("d", DIGIT))))
        inner = ((1, "red"),)
        table = (("", 1, inner, 15, 0), ("blue", 1, inner, -1, 1), ("red", 2, inner, -15, 2))
        view = (("", 1, inner, 1, 5, 0), ("blue", 1, inner, -1, 9, 1), ("red", 2, inner, -2, 5, 2))
        self.assertEqual(step.got(RESTED, table), view)
        self.assertEqual(step.put(RESTED, (), view), table)
        self.assertEqual(step.put(RESTED, table, ()), ())
        self.assertEqual(step.put(RESTED, table[1:], view[:2]), table[:2])

    def test_the_kinds_told(self):
        for low, high, by, lowest, highest in ((0, 1, 2, 0, 0), (-2, -1, 2, -1, -1), (-6, 11, 3, -2, 3),
                                               (5, 9, 5, 1, 1), (-9, 17, 9, -1, 1), (0, 10 ** 9 - 1, 10 ** 9, 0, 0)):
            form = ((("n", number(low, high)),), ())
            told = ((("q", number(lowest, highest)), ("r", number(0, by - 1))), ())
            self.assertEqual(Part("n", by, "q", "r").view_form(form), told)

    def test_numbers_below_nought_and_of_sixty_figures(self):
        most = 10 ** 60
        form = ((("n", number(-most, most - 1)),), (("v", number(-most, most - 1)),))
        for by in (2, 10, 10 ** 9):
            step = Part("n", by, "q", "r")
            self.assertEqual(step.view_form(form)[0], (("q", number(-most // by, most // by - 1)), ("r", number(0, by - 1))))
            self.assertEqual(step.got(form, ((-most, 0), (-1, 1), (most - 1, 2))), (
                (-most // by, 0, 0), (-1, by - 1, 1), (most // by - 1, by - 1, 2)))
        self.assertEqual(Part("v", 10 ** 9, "q", "r").got(form, ((0, 10 ** 59 + 7), (1, -10 ** 59 + 7))), (
            (0, 10 ** 50, 7), (1, -10 ** 50, 7)))
        self.assertEqual(Part("v", 10 ** 9, "q", "r").put(form, (), ((0, 10 ** 50, 7), (1, -10 ** 50, 7))), (
            (0, 10 ** 59 + 7), (1, -10 ** 59 + 7)))

    def test_the_fields_own_name_again(self):
        form = ((("n", number(0, 3)),), (("v", BIT),))
        self.assertEqual(Part("n", 2, "n", "r").view_form(form), ((("n", BIT), ("r", BIT)), (("v", BIT),)))
        self.assertEqual(Part("n", 2, "q", "n").view_form(form), ((("q", BIT), ("n", BIT)), (("v", BIT),)))
        self.assertEqual(Part("v", 2, "v", "r").view_form(form), ((("n", number(0, 3)),), (("v", number(0, 0)), ("r", BIT))))
        for step in (Part("n", 2, "n", "r"), Part("n", 2, "q", "n"), Part("v", 2, "v", "r"), Part("v", 2, "q", "v")):
            check_step(self, step, ((("n", BIT),), (("v", BIT),)))

    def test_fields_and_words(self):
        step = Part("n", 10 ** 9, "q", "r")
        self.assertIsInstance(step, Step)
        self.assertEqual((step.name, step.by, step.quotient, step.rest), ("n", 10 ** 9, "q", "r"))
        self.assertEqual(step.words(), ("part", "n", "1000000000", "q", "r"))
        self.assertEqual(Part("n", -12, "q", "r").words(), ("part", "n", "-12", "q", "r"))
        self.assertEqual(Part("n", 0, "q", "r").words(), ("part", "n", "0", "q", "r"))


class PartLawsTest(unittest.TestCase):
    def test_for_all_tables_and_views_of_small_forms(self):
        four = number(-2, 1)
        check_step(self, Part("n", 2, "q", "r"), ((("n", four),), (("v", BIT),)))
        check_step(self, Part("n", 2, "q", "r"), ((("a", BIT), ("n", BIT)), ()))
        check_step(self, Part("n", 2, "q", "r"), ((("n", BIT), ("a", BIT)), (("v", number(3, 3)),)))
        check_step(self, Part("n", 2, "q", "r"), ((("a", BIT),), (("n", four), ("v", number(3, 3)))))
        check_step(self, Part("n", 4, "q", "r"), ((("a", BIT),), (("n", number(0, 3)),)))

    def test_for_some_tables_of_great_forms(self):
        chance = random.Random(21)
        for form in (KEYED, RESTED):
            for by in (2, 4, 10):
                step = Part("n", by, "q", "r")
                tables = [some_table(chance, form, 60) for unused in range(4)]
                views = [some_table(chance, step.view_form(form), 60) for unused in range(4)]
                check_round_trips(self, step, form, tables, views)
                self.assertIs(step.exact(form), True)
                self.assertIs(step.steady(form), True)


class PartRefusedTest(unittest.TestCase):
    def refused(self, form, *arguments):
        return refusal(Part(*arguments).view_form, form)

    def test_no_field(self):
        for arguments in (("x", 10, "q", "r"), ("k", 10, "q", "r"), ("x", 1, "q", "q"), ("x", 3, "a", "b")):
            self.assertEqual(self.refused(KEYED, *arguments), NoField)

    def test_no_number(self):
        for name in "ac":
            self.assertEqual(self.refused(KEYED, name, 10, "q", "r"), NoKind)
            self.assertEqual(self.refused(RESTED, name, 10, "q", "r"), NoKind)

    def test_by_beyond_its_bounds(self):
        wide = ((("n", number(0, 0)), ("a", BIT)), ())
        for by in (1, 0, -1, -2, -10, 10 ** 9 + 1, 10 ** 18):
            self.assertEqual(self.refused(KEYED, "n", by, "q", "r"), NoKind)
            self.assertEqual(self.refused(wide, "n", by, "a", "a"), NoKind)
        self.assertIsNone(self.refused(KEYED, "n", 2, "q", "r"))
        self.assertIsNone(self.refused(((("n", number(-10 ** 9, 10 ** 9 - 1)),), ()), "n", 10 ** 9, "q", "r"))

    def test_twice(self):
        for form in (KEYED, RESTED):
            for quotient, rest in (("q", "q"), ("n", "n"), ("a", "r"), ("q", "a"), ("c", "r"), ("q", "d"), ("b", "b"),
                                   ("n", "a"), ("d", "n")):
                self.assertEqual(self.refused(form, "n", 10, quotient, rest), Twice)
                self.assertEqual(self.refused(form, "n", 7, quotient, rest), Twice)

    def test_too_many(self):
        eight, seven = fields("abcdefgh"), fields("abcdefg")
        others = fields("stuvwxyz")
        self.assertEqual(self.refused((eight, ()), "a", 2, "q", "r"), TooMany)
        self.assertEqual(self.refused((eight, others), "h", 2, "h", "r"), TooMany)
        self.assertEqual(self.refused((seven, others), "s", 2, "q", "r"), TooMany)
        self.assertEqual(self.refused((seven, others), "z", 2, "q", "z"), TooMany)
        self.assertIsNone(self.refused((seven, others), "g", 2, "q", "r"))
        self.assertIsNone(self.refused((eight, others[:7]), "s", 2, "q", "r"))

    def test_two_at_once_the_one_told_first(self):
        full = ((("w", COLOR),) + fields("abcdefg"), ())
        self.assertEqual(self.refused(full, "x", 2, "q", "q"), NoField)
        self.assertEqual(self.refused(full, "w", 2, "q", "q"), NoKind)
        self.assertEqual(self.refused(full, "w", 2, "q", "r"), NoKind)
        self.assertEqual(self.refused(full, "a", 1, "q", "a"), NoKind)
        self.assertEqual(self.refused(full, "a", 2, "q", "q"), Twice)
        self.assertEqual(self.refused(full, "a", 3, "q", "b"), Twice)
        self.assertEqual(self.refused(full, "a", 3, "q", "r"), TooMany)
        self.assertEqual(self.refused(KEYED, "n", 3, "q", "r"), Torn)


class TornTest(unittest.TestCase):
    def check(self, form, place, by):
        """Torn is told, with a view as the document asks for."""
        low, high = (form[0] + form[1])[place][1][1:]
        name = (form[0] + form[1])[place][0]
        parts = (("q", number(low // by, high // by)), ("r", number(0, by - 1)))
        many = len(form[0])
        if place < many:
            due = (form[0][:place] + parts + form[0][place + 1:], form[1])
        else:
            due = (form[0], form[1][:place - many] + parts + form[1][place - many + 1:])
        check_form(due)
        step = Part(name, by, "q", "r")
        with self.assertRaises(Torn) as caught:
            step.view_form(form)
        view = caught.exception.view
        self.assertTrue(keeps(due, view), view)
        numbers = [row[place] * by + row[place + 1] for row in view]
        self.assertTrue(any([not low <= n <= high for n in numbers]), view)

    def test_low_high_and_both(self):
        for low, high, by in ((1, 9, 10), (0, 8, 10), (1, 8, 10), (-1, 9, 10), (-10, -2, 10), (5, 5, 10), (-5, -5, 10),
                              (1, 1, 2), (0, 0, 2), (-1, -1, 2), (-2, -2, 2), (0, 10, 10), (-11, 9, 10), (3, 12, 10),
                              (0, 9, 10 ** 9), (-10 ** 60 + 1, 10 ** 60 - 1, 7), (1, 10 ** 60 - 1, 10 ** 9)):
            self.check(((("n", number(low, high)),), ()), 0, by)
            self.check(((("a", DIGIT), ("n", number(low, high)), ("b", COLOR)), (("c", INNER),)), 1, by)
            self.check(((("a", DIGIT),), (("c", INNER), ("n", number(low, high)))), 2, by)
            self.check(((("a", DIGIT),), (("n", number(low, high)), ("c", INNER))), 1, by)

    def test_just_where_an_end_is_no_multiple(self):
        for low in range(-7, 8):
            for high in range(low, 10):
                for by in (2, 3, 5):
                    form = ((("k", number(low, high)),), ())
                    if low % by == 0 and (high + 1) % by == 0:
                        self.assertIsNone(refusal(Part("k", by, "q", "r").view_form, form))
                    else:
                        self.check(form, 0, by)

    def test_beside_seven_others(self):
        form = (fields("abcdefg", number(1, 3)), fields("stuvwxy", number(1, 4)))
        for place in range(14):
            self.check(form, place, 3)


if __name__ == "__main__":
    unittest.main()
