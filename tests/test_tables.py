import itertools
import random
import unittest

from samples import ATOMS, COLOR, DIGIT, ONE, form_of, junk, nested, rows, spoiled, tables_of, values_of
from twoglass.tables import fits, keeps, least_row, sorted_by

PAIR = ((("n", DIGIT), ("w", COLOR)), (("v", DIGIT),))
INNER = form_of(COLOR)


class FitsTest(unittest.TestCase):
    def check(self, kind, good, bad):
        for value in good:
            self.assertIs(fits(kind, value), True, value)
        for value in bad:
            self.assertIs(fits(kind, value), False, value)

    def test_numbers(self):
        self.check(("number", -3, 9), (-3, 0, 1, 9), (-4, 10, True, False, None, "", "1", (), (1,), [], [1]))

    def test_great_numbers(self):
        great = 10 ** 60 - 1
        self.check(("number", -great, great), (-great, great, 0), (-great - 1, great + 1, True))
        self.check(("number", great - 1, great - 1), (great - 1,), (great - 2, great))

    def test_truths_are_no_numbers(self):
        self.check(("number", 0, 1), (0, 1), (True, False))

    def test_words(self):
        self.check(COLOR, ("", "blue", "red"), ("blu", "bluered", "green", "Red", 0, True, None, (), ("red",), ["red"]))
        self.check(("word", ("ab",)), ("ab",), ("", "a", "b", "abab"))

    def test_rows_that_may_be_empty(self):
        self.check(rows(INNER), ((), ((1, "red"),), ((1, "red"), (2, ""))),
                   (None, 0, False, "", [], [(1, "red")], ((1, "green"),), ((2, ""), (1, ""))))

    def test_rows_that_may_not_be_empty(self):
        self.check(rows(INNER, True), (((1, "red"),), ((1, "red"), (2, ""))),
                   ((), None, 0, False, "", [], [(1, "red")], ((1, "green"),), ((2, ""), (1, ""))))

    def test_as_going_through_all_values(self):
        kinds = (("number", 0, 1), ("word", ("", "a")), rows(form_of(ONE), True),
                 rows(((("k", ("number", 0, 1)),), (("v", ("word", ("", "a"))),))),
                 rows(((("k", ("number", 0, 1)),), (("v", ("word", ("", "a"))),)), True))
        values = list(ATOMS)
        for kind in kinds:
            values.extend(values_of(kind))
        for kind in kinds:
            good = [repr(value) for value in values_of(kind)]
            for value in values:
                self.assertIs(fits(kind, value), repr(value) in good, value)


class KeepsTest(unittest.TestCase):
    def good(self, form, *tables):
        for table in tables:
            self.assertIs(keeps(form, table), True, table)

    def bad(self, form, *tables):
        """It is no table of the form; and, within another one, no inner table either."""
        for table in tables:
            inner, outer = table, form
            for unused in range(3):
                self.assertIs(keeps(outer, inner), False, inner)
                inner, outer = ((1, inner),), form_of(rows(outer))

    def test_the_empty_table(self):
        self.good(PAIR, ())
        self.good(nested(3, True), ())

    def test_keys_that_rise(self):
        self.good(PAIR, ((1, "red", 0),), ((1, "blue", 9), (1, "red", 0)), ((1, "red", 5), (2, "", 5), (9, "blue", 5)))

    def test_keys_that_do_not_rise(self):
        self.bad(PAIR, ((2, "", 5), (1, "", 5)), ((1, "red", 0), (1, "blue", 0)), ((1, "red", 0), (2, "", 0), (1, "", 0)))
        self.bad(PAIR, ((1, "red", 1), (2, "", 0), (1, "red", 2)))

    def test_a_key_twice(self):
        self.bad(PAIR, ((1, "red", 0), (1, "red", 0)), ((1, "red", 0), (1, "red", 5)))

    def test_the_rest_need_not_rise(self):
        self.good(PAIR, ((1, "", 9), (2, "", 0)), ((1, "", 5), (2, "", 5)))

    def test_numbers_are_compared_as_numbers(self):
        form = ((("n", ("number", -100, 100)),), ())
        self.good(form, ((9,), (10,)), ((-10,), (-9,), (0,), (5,)))
        self.bad(form, ((10,), (9,)), ((-9,), (-10,)), ((0,), (-1,)))

    def test_texts_are_compared_as_texts(self):
        form = ((("w", ("word", ("", "a", "aa", "ab", "b"))),), ())
        self.good(form, (("",), ("a",), ("aa",), ("ab",), ("b",)), (("aa",), ("b",)))
        self.bad(form, (("b",), ("aa",)), (("a",), ("",)))

    def test_keys_are_compared_from_the_left(self):
        form = ((("a", DIGIT), ("b", DIGIT), ("c", DIGIT)), ())
        table = tuple(itertools.product(range(2), repeat=3))
        self.good(form, table)
        for one, other in itertools.combinations(range(8), 2):
            self.good(form, (table[one], table[other]))
            self.bad(form, (table[other], table[one]))

    def test_values_of_another_kind(self):
        for value in (None, True, False, "a", "", (), (1,), [1], -1, 10):
            self.bad(PAIR, ((value, "red", 0),), ((1, "red", value),), ((1, "red", 0), (2, "red", value)))
        for value in (None, True, 0, 1, "r", "green", (), ("red",), ["red"]):
            self.bad(PAIR, ((1, value, 0),))

    def test_keys_that_cannot_be_compared(self):
        self.bad(PAIR, ((1, "red", 0), ("a", "red", 0)), ((None, "", 0), (1, "", 0)), ((1, 2, 0), (1, "", 0)))
        self.bad(PAIR, ((1, "", 0), ((), "", 0)), (([], "", 0), (1, "", 0)))

    def test_a_value_too_few_or_too_many(self):
        self.bad(PAIR, ((),), ((1,),), ((1, "red"),), ((1, "red", 0, 0),), ((1, "red", 0), (2, "red")))

    def test_lists(self):
        self.bad(PAIR, [], [(1, "red", 0)], ([1, "red", 0],), ((1, "red", 0), [2, "red", 0]))

    def test_other_things_for_rows_and_tables(self):
        for thing in ATOMS:
            self.bad(PAIR, thing, (thing,), ((1, "red", 0), thing))
        self.bad(PAIR, "abc", ("abc",))

    def test_inner_tables_that_may_not_be_empty(self):
        form = form_of(rows(INNER, True))
        self.good(form, ((1, ((1, "red"),)),))
        self.bad(form, ((1, ()),), ((1, ((1, "red"),)), (2, ())))

    def test_inner_tables(self):
        form = nested(3)
        self.good(form, ((1, ((1, ((1, ((1, 1), (2, 1))),)),)),), ((1, ()),), ((1, ((1, ()),)), (2, ())))
        self.bad(form, ((1, ((1, ((1, ((2, 1), (1, 1))),)),)),), ((1, ((1, ((1, ((1, 10),)),)),)),))
        self.bad(form, ((1, ((1, ((1, [(1, 1)]),)),)),), ((1, ((1, ((1, ((1, True),)),)),)),))

    def test_sixty_rows_and_more(self):
        form = ((("n", ("number", 0, 999)),), (("v", DIGIT),))
        for many in (59, 60, 61, 300):
            table = tuple([(k, k % 10) for k in range(many)])
            self.good(form, table)
            self.bad(form, table[:-2] + (table[-1], table[-2]), table + (table[-1],))

    def test_very_deep_things(self):
        thing = ()
        for unused in range(100000):
            thing = (thing,)
        for table in (thing, (thing,), ((thing, "", 0),), ((1, thing, 0),), ((1, "", thing),)):
            self.assertIs(keeps(PAIR, table), False)
        self.assertIs(keeps(form_of(rows(form_of(DIGIT))), ((1, thing),)), False)

    def test_as_going_through_all_tables(self):
        bit = ("number", 0, 1)
        form = ((("a", bit), ("b", ("word", ("", "a")))), (("c", bit),))
        good = {repr(table) for table in tables_of(form)}
        all_rows = list(itertools.product((0, 1), ("", "a"), (0, 1, True)))
        for many in range(4):
            for table in itertools.product(all_rows, repeat=many):
                self.assertIs(keeps(form, table), repr(table) in good, table)

    def test_spoiled_tables_and_junk(self):
        chance = random.Random(4)
        bit = ("number", 0, 1)
        form = ((("a", bit),), (("b", rows(((("c", bit),), (("d", ("word", ("", "a"))),)), True)),))
        tables = tables_of(form)
        good = {repr(table) for table in tables}
        kept = 0
        for unused in range(6000):
            table = spoiled(chance, chance.choice(tables)) if chance.random() < 0.8 else junk(chance, 4)
            before = repr(table)
            kept += before in good
            self.assertIs(keeps(form, table), before in good, table)
            self.assertEqual(repr(table), before)
        self.assertGreater(kept, 20)


class SortedByTest(unittest.TestCase):
    def test_rising_by_the_first_values(self):
        self.assertEqual(sorted_by(1, [(2, "a"), (1, "b")]), ((1, "b"), (2, "a")))
        self.assertEqual(sorted_by(1, ((10, "a"), (9, "b"), (-1, "c"))), ((-1, "c"), (9, "b"), (10, "a")))
        self.assertEqual(sorted_by(2, [(1, "b", 0), (1, "a", 9), (0, "c", 5)]), ((0, "c", 5), (1, "a", 9), (1, "b", 0)))
        self.assertEqual(sorted_by(1, [("b",), ("",), ("ab",), ("a",)]), (("",), ("a",), ("ab",), ("b",)))

    def test_none_and_one(self):
        self.assertEqual(sorted_by(1, []), ())
        self.assertEqual(sorted_by(1, ()), ())
        self.assertEqual(sorted_by(1, [(1, None)]), ((1, None),))

    def test_only_the_first_values_are_compared(self):
        self.assertEqual(sorted_by(1, [(2, ()), (1, "a"), (3, 5)]), ((1, "a"), (2, ()), (3, 5)))

    def test_turned_about_and_mixed(self):
        chance = random.Random(5)
        table = [(a, b, chance.randrange(9)) for a in range(6) for b in ("", "a", "b")]
        for unused in range(50):
            mixed = chance.sample(table, len(table))
            before = list(mixed)
            for some in (mixed, mixed[::-1], tuple(mixed)):
                answer = sorted_by(2, some)
                self.assertIsInstance(answer, tuple)
                self.assertEqual(answer, tuple(table))
            self.assertEqual(mixed, before)


class LeastRowTest(unittest.TestCase):
    def test_least_values_in_the_order_of_the_fields(self):
        self.assertEqual(least_row(PAIR), (0, "", 0))
        self.assertEqual(least_row(((("a", ("number", -5, 3)),), ())), (-5,))
        self.assertEqual(least_row(form_of(rows(INNER))), (0, ()))
        self.assertEqual(least_row(form_of(rows(INNER, True))), (0, ((0, ""),)))
        self.assertEqual(least_row(nested(3, True)), (0, ((0, ((0, ((0, 0),)),)),)))

    def test_a_table_of_it_alone_keeps_the_form(self):
        for many in range(4):
            for some in (True, False):
                for kind in (DIGIT, COLOR, ONE):
                    form = nested(many, some, kind)
                    self.assertIs(keeps(form, (least_row(form),)), True)


if __name__ == "__main__":
    unittest.main()
