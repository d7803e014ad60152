import unittest

from laws import check_step, refusal
from samples import COLOR, DIGIT, form_of, rows
from twoglass.errors import NoField, Twice
from twoglass.renames import Rename
from twoglass.steps import Step

BIT = ("number", 0, 1)
INNER = rows(form_of(COLOR), True)
FORM = ((("a", DIGIT), ("b", COLOR)), (("c", INNER), ("d", DIGIT)))


class RenameTest(unittest.TestCase):
    def test_a_field_of_the_key_in_its_place(self):
        self.assertEqual(Rename("a", "x").view_form(FORM), ((("x", DIGIT), ("b", COLOR)), FORM[1]))
        self.assertEqual(Rename("b", "x").view_form(FORM), ((("a", DIGIT), ("x", COLOR)), FORM[1]))

    def test_a_field_of_the_rest_in_its_place(self):
        self.assertEqual(Rename("c", "x").view_form(FORM), (FORM[0], (("x", INNER), ("d", DIGIT))))
        self.assertEqual(Rename("d", "x").view_form(FORM), (FORM[0], (("c", INNER), ("x", DIGIT))))

    def test_names_of_inner_forms_are_their_own(self):
        self.assertEqual(Rename("a", "k").view_form(FORM), ((("k", DIGIT), ("b", COLOR)), FORM[1]))
        self.assertEqual(refusal(Rename("v", "x").view_form, FORM), NoField)

    def test_the_rows_stay(self):
        table, view = ((1, "", ((0, "red"),), 5),), ((2, "red", ((9, ""),), 0),)
        for old in "abcd":
            self.assertEqual(Rename(old, "x").got(FORM, table), table)
            self.assertEqual(Rename(old, "x").put(FORM, table, view), view)

    def test_fields_and_words(self):
        step = Rename("old", "newname")
        self.assertIsInstance(step, Step)
        self.assertEqual((step.old, step.new), ("old", "newname"))
        self.assertEqual(step.words(), ("rename", "old", "newname"))

    def test_no_field(self):
        for step in (Rename("x", "y"), Rename("x", "a"), Rename("x", "x"), Rename("x", "d"), Rename("ab", "y")):
            self.assertEqual(refusal(step.view_form, FORM), NoField)

    def test_twice(self):
        for old in "abcd":
            for new in "abcd":
                self.assertEqual(refusal(Rename(old, new).view_form, FORM), Twice)

    def test_exact_and_steady_for_all_tables_and_views(self):
        form = ((("a", BIT), ("b", ("word", ("", "x")))), (("c", ("number", 4, 4)),))
        for old in "abc":
            check_step(self, Rename(old, "x"), form)
            self.assertIs(Rename(old, "x").exact(FORM), True)
            self.assertIs(Rename(old, "x").steady(FORM), True)


if __name__ == "__main__":
    unittest.main()
