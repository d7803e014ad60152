import random
import unittest

from samples import COLOR, DIGIT, ONE, form_of, nested, rows, values_of
from twoglass.kinds import both, least, single
from twoglass.tables import fits


def number(low, high):
    return ("number", low, high)


def words(*some):
    return ("word", some)


class BothTest(unittest.TestCase):
    def meet(self, one, other, kind):
        self.assertEqual(both(one, other), kind)
        self.assertEqual(both(other, one), kind)

    def test_ranges(self):
        self.meet(number(0, 9), number(5, 20), number(5, 9))
        self.meet(number(0, 9), number(9, 20), number(9, 9))
        self.meet(number(0, 9), number(10, 20), None)
        self.meet(number(-9, -5), number(5, 9), None)
        self.meet(number(0, 9), number(3, 4), number(3, 4))
        self.meet(number(0, 9), number(0, 9), number(0, 9))
        self.meet(number(-5, 5), number(-9, 0), number(-5, 0))
        self.meet(number(7, 7), number(7, 7), number(7, 7))

    def test_great_ranges(self):
        great = 10 ** 60 - 1
        self.meet(number(-great, great), number(great, great), number(great, great))
        self.meet(number(-great, great - 1), number(great, great), None)

    def test_words(self):
        self.meet(words("a", "b", "d"), words("b", "c", "d"), words("b", "d"))
        self.meet(words("a", "b"), words("c"), None)
        self.meet(words("", "a"), words(""), words(""))
        self.meet(words("a", "ab", "b"), words("ab"), words("ab"))
        self.meet(words("ab"), words("a", "b"), None)

    def test_unlike_sorts(self):
        table = rows(form_of(DIGIT))
        for one, other in ((DIGIT, COLOR), (DIGIT, table), (COLOR, table)):
            self.meet(one, other, None)

    def test_as_going_through_all_values(self):
        chance = random.Random(1)
        letters = ("", "a", "aa", "ab", "b", "c")
        for unused in range(300):
            ends = [sorted(chance.choices(range(-3, 4), k=2)) for unused in range(2)]
            some = [sorted(chance.sample(letters, chance.randrange(1, 7))) for unused in range(2)]
            pairs = ([number(*two) for two in ends], [words(*several) for several in some])
            for one, other in pairs:
                expected = [value for value in values_of(one) if value in values_of(other)]
                kind = both(one, other)
                self.assertEqual([] if kind is None else values_of(kind), expected)
                self.assertEqual(kind, both(other, one))


class SingleAndLeastTest(unittest.TestCase):
    def check(self, kind, is_single, value):
        self.assertIs(single(kind), is_single)
        self.assertEqual(least(kind), value)
        self.assertTrue(fits(kind, value))

    def test_numbers(self):
        self.check(number(7, 7), True, 7)
        self.check(number(7, 8), False, 7)
        self.check(number(-8, -7), False, -8)
        self.check(number(0, 0), True, 0)
        self.check(number(-10 ** 60 + 1, 10 ** 60 - 1), False, -10 ** 60 + 1)

    def test_words(self):
        self.check(words("a"), True, "a")
        self.check(words(""), True, "")
        self.check(words("", "a"), False, "")
        self.check(words("b", "c", "d"), False, "b")

    def test_rows_that_may_be_empty(self):
        self.check(rows(form_of(DIGIT)), False, ())
        self.check(rows(((("k", ONE),), ())), False, ())

    def test_rows_that_may_not_be_empty(self):
        self.check(rows(((("k", ONE),), ()), True), True, ((7,),))
        self.check(rows(((("k", ONE),), (("v", words("")),)), True), True, ((7, ""),))
        self.check(rows(((("k", ONE),), (("v", COLOR),)), True), False, ((7, ""),))
        self.check(rows(((("k", DIGIT),), (("v", ONE),)), True), False, ((0, 7),))
        self.check(rows(((("k", ONE), ("l", DIGIT)), ()), True), False, ((7, 0),))

    def test_three_within_one_another(self):
        def deep(kind, some):
            for flag in some:
                kind = rows(((("k", ONE),), (("v", kind),)), flag)
            return kind
        self.check(deep(ONE, (True, True, True)), True, ((7, ((7, ((7, 7),)),)),))
        self.check(deep(DIGIT, (True, True, True)), False, ((7, ((7, ((7, 0),)),)),))
        self.check(deep(ONE, (False, True, True)), False, ((7, ((7, ()),)),))
        self.check(deep(ONE, (True, False, True)), False, ((7, ()),))
        self.check(deep(ONE, (True, True, False)), False, ())

    def test_as_going_through_all_values(self):
        small = (number(0, 0), number(0, 1), words("a"), words("", "b"))
        kinds = list(small)
        for flag in (True, False):
            for key in small:
                kinds.append(rows(((("k", key),), ()), flag))
                for value in small:
                    inner = rows(((("k", key),), (("v", value),)), flag)
                    kinds.append(inner)
                    kinds.append(rows(((("k", ONE),), (("v", inner),)), True))
        for kind in kinds:
            values = values_of(kind)
            self.assertIs(single(kind), len(values) == 1)
            self.assertEqual(least(kind), values[0])

    def test_nothing_is_changed(self):
        kind = rows(nested(2, True), True)
        before = repr(kind)
        single(kind)
        least(kind)
        both(kind, DIGIT)
        self.assertEqual(repr(kind), before)


if __name__ == "__main__":
    unittest.main()
