import unittest

from laws import check_step
from samples import COLOR, DIGIT, nested, rows
from twoglass.steps import Step

BIT = ("number", 0, 1)
FORMS = (((("k", BIT),), (("v", BIT),)), ((("a", BIT), ("b", ("word", ("", "x")))), ()), nested(3, True, COLOR),
         ((("k", DIGIT),), (("in", rows(((("k", DIGIT),), ())), ),)))


class StepTest(unittest.TestCase):
    def test_its_words(self):
        self.assertEqual(Step().words(), ())

    def test_its_form_table_and_put(self):
        for form in FORMS:
            self.assertEqual(Step().view_form(form), form)
        table, view = ((1, 1),), ((0, 1), (1, 0))
        self.assertEqual(Step().got(FORMS[0], table), table)
        self.assertEqual(Step().put(FORMS[0], table, view), view)
        self.assertEqual(Step().put(FORMS[0], table, ()), ())

    def test_exact_and_steady(self):
        for form in FORMS:
            self.assertIs(Step().exact(form), True)
            self.assertIs(Step().steady(form), True)

    def test_for_all_tables_and_views(self):
        for form in FORMS[:2]:
            check_step(self, Step(), form)


if __name__ == "__main__":
    unittest.main()
