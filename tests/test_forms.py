import random
import unittest

from samples import ATOMS, COLOR, DIGIT, ONE, form_of, junk, nested, rows, spoiled
from twoglass.errors import NoField, NoForm
from twoglass.forms import check_form, depth_of, names_of, place_of

ABC = "abcdefghijklmnop"
KEY = (("k", DIGIT),)


def fields(letters, kind=DIGIT):
    return tuple([(letter, kind) for letter in letters])


def refused(form):
    try:
        check_form(form)
    except NoForm:
        return True
    return False


class GoodFormsTest(unittest.TestCase):
    def good(self, form):
        self.assertIsNone(check_form(form))

    def test_one_to_eight_fields_in_the_key_none_to_eight_in_the_rest(self):
        for many in range(1, 9):
            for others in range(9):
                self.good((fields(ABC[:many]), fields(ABC[8:8 + others])))

    def test_none_to_three_kinds_rows_within_one_another(self):
        for many in range(4):
            for some in (True, False):
                self.good(nested(many, some))

    def test_three_within_one_another_in_several_fields(self):
        kind = rows(nested(2))
        self.good((KEY, (("a", kind), ("b", kind), ("c", DIGIT))))

    def test_inner_names_are_their_own(self):
        self.good((KEY, (("v", rows((KEY, (("v", DIGIT),)))), ("w", rows((KEY, ()))))))

    def test_names_of_one_to_eight_letters(self):
        for name in ("a", "z", "abcdefgh", "zzzzzzzz"):
            self.good((((name, DIGIT),), ()))

    def test_numbers(self):
        great = 10 ** 60 - 1
        for low, high in ((0, 0), (-1, 1), (-great, great), (great, great), (-5, -5)):
            self.good((KEY, (("v", ("number", low, high)),)))

    def test_words(self):
        for words in (("",), ("abcdefgh",), ("", "a", "aa", "b"), tuple(ABC[:12])):
            self.good(((("k", ("word", words)),), ()))


class NoFormsTest(unittest.TestCase):
    def bad(self, form):
        """It is refused at the top, and within one, two and three kinds rows alike."""
        for some in (True, False):
            inner = form
            for unused in range(4):
                with self.subTest(form=inner), self.assertRaises(NoForm):
                    check_form(inner)
                inner = form_of(rows(inner, some))

    def bad_kind(self, kind):
        self.bad((KEY, (("v", kind),)))
        self.bad(((("v", kind),), ()))

    def test_no_tuple(self):
        for thing in ATOMS + ([], [KEY, ()]):
            self.bad(thing)

    def test_a_list_in_a_tuples_stead(self):
        self.bad([KEY, ()])
        self.bad((list(KEY), ()))
        self.bad((KEY, []))
        self.bad((KEY, [("v", DIGIT)]))
        self.bad(((["k", DIGIT],), ()))
        self.bad((KEY, (["v", DIGIT],)))
        self.bad_kind(["number", 0, 9])
        self.bad_kind(["word", ("a",)])
        self.bad_kind(("word", ["a"]))
        self.bad_kind(["rows", (KEY, ()), True])
        self.bad((KEY, (("v", rows([KEY, ()])),)))

    def test_a_part_too_few_or_too_many(self):
        for form in ((), (KEY,), (KEY, (), ())):
            self.bad(form)
        for field in ((), ("v",), ("v", DIGIT, 1), (DIGIT,)):
            self.bad((KEY, (field,)))
            self.bad(((field,), ()))
        for kind in ((), ("number",), ("number", 0), ("number", 0, 9, 9), ("word",), ("word", ("a",), ("b",)),
                     ("rows",), ("rows", (KEY, ())), ("rows", (KEY, ()), True, True)):
            self.bad_kind(kind)

    def test_too_few_or_too_many_fields(self):
        self.bad(((), ()))
        self.bad(((), fields("v")))
        self.bad((fields(ABC[:9]), ()))
        self.bad((KEY, fields(ABC[:9])))

    def test_things_in_the_stead_of_fields(self):
        for thing in ATOMS:
            self.bad((thing, ()))
            self.bad((KEY, thing or "x"))
            self.bad((KEY, (thing,)))
            self.bad((KEY + (thing,), ()))

    def test_a_name_twice(self):
        self.bad((fields("aa"), ()))
        self.bad((fields("aba"), ()))
        self.bad((KEY, fields("vv")))
        self.bad((KEY, fields("k")))
        self.bad((fields("ab"), fields("cb")))

    def test_no_names(self):
        names = ("", "abcdefghi", "A", "aB", "a1", "1", "a b", " a", "a\n", "\n", "a_", "`", "{", "\u00e4", "\u0430",
                 None, True, 1, (), ("a",), ["a"], [])
        for name in names:
            self.bad((((name, DIGIT),), ()))
            self.bad((KEY, ((name, DIGIT),)))

    def test_no_numbers(self):
        ends = ((1, 0), (0, -1), (10 ** 60, 10 ** 59), (False, 9), (0, True), (True, True), (None, 9), (0, None),
                ("0", "9"), ("a", "b"), ((0,), (9,)), ([0], [9]))
        for low, high in ends:
            self.bad_kind(("number", low, high))

    def test_no_words(self):
        several = ((), tuple(ABC[:13]), ("b", "a"), ("a", "c", "b"), ("a", "a"), ("", ""), ("a", "b", "b"),
                   ("abcdefghi",), ("A",), ("a1",), ("a b",), ("\n",), (" ",), ("a", "{"), ("\u00e4",), (1,), (None,),
                   (True,), ("a", None), ("a", ("b",)), (["a"],), "a", "abc", None, 1, True, ["a", "b"])
        for words in several:
            self.bad_kind(("word", words))

    def test_some_is_a_truth(self):
        for some in (0, 1, None, "", "a", (), []):
            self.bad((KEY, (("v", ("rows", (KEY, ()), some)),)))

    def test_another_first_word(self):
        for first in ("numbers", "Number", "words", "row", "", None, 0, True, (), ("number",), ["number"]):
            self.bad_kind((first, 0, 9))
            self.bad_kind((first, ("a",)))
            self.bad_kind((first, (KEY, ()), True))
        self.bad_kind(("word", 0, 9))
        self.bad_kind(("number", ("a",)))
        self.bad_kind(("rows", 0, 9))
        self.bad_kind(("number", (KEY, ()), True))
        self.bad_kind(("rows", ("a",), True))

    def test_other_things_for_kinds(self):
        for thing in ATOMS:
            self.bad_kind(thing)

    def test_rows_in_the_key(self):
        for some in (True, False):
            self.bad(((("k", rows((KEY, ()), some)),), ()))
            self.bad((KEY + (("t", rows((KEY, ()), some)),), ()))

    def test_four_within_one_another(self):
        for some in (True, False):
            self.bad(nested(4, some))
            self.bad((KEY, (("a", DIGIT), ("b", rows(nested(3, some))))))

    def test_the_second_of_two_kinds_rows_is_too_deep(self):
        self.bad((KEY, (("a", rows(nested(2))), ("b", rows(nested(3))))))

    def test_very_deep_things(self):
        thing = ()
        for unused in range(100000):
            thing = (thing,)
        several = (nested(100000), thing, (thing, ()), (KEY, thing), (KEY, (("v", thing),)), (KEY, ((thing, DIGIT),)),
                   ((("k", ("word", thing)),), ()), ((("k", ("number", thing, thing)),), ()),
                   (KEY, (("v", ("rows", thing, True)),)), (KEY, (("v", (thing, thing, True)),)))
        for form in several:
            self.assertTrue(refused(form))

    def test_a_list_within_itself(self):
        ring = []
        ring.append(ring)
        ring.append((ring, ring))
        for form in (ring, (ring, ring), (KEY, ring), (KEY, (("v", ("rows", ring, True)),))):
            self.assertTrue(refused(form))

    def test_whatever_else_is_refused_and_stays_as_it_was(self):
        chance = random.Random(2)
        for unused in range(3000):
            thing = junk(chance, 6)
            before = repr(thing)
            self.assertTrue(refused(thing), before)
            self.assertEqual(repr(thing), before)

    def test_spoiled_forms_are_refused_or_are_forms(self):
        chance = random.Random(3)
        forms = (nested(3), nested(1, True), (fields("ab"), (("c", COLOR), ("d", rows((KEY, ()))))))
        counts = {True: 0, False: 0}
        for unused in range(6000):
            form = spoiled(chance, chance.choice(forms))
            before = repr(form)
            answer = refused(form)
            counts[answer] += 1
            self.assertEqual(answer, not is_form(form, 3), before)
            self.assertEqual(repr(form), before)
        self.assertGreater(min(counts.values()), 20)


def is_form(form, room):
    """The words of the document once more, as one flat list of what must hold."""
    try:
        (key, rest) = form
        kinds = [kind for name, kind in key + rest]
        names = [name for name, kind in key + rest]
        parts = [form, key, rest, *key, *rest, *kinds]
        return (all([type(part) is tuple for part in parts])
                and 1 <= len(key) <= 8 and len(rest) <= 8
                and all([type(name) is str and 1 <= len(name) <= 8 and name.isascii() for name in names])
                and all([name.isalpha() and name.islower() for name in names])
                and len(set(names)) == len(names)
                and all([is_kind(kind, 0) for name, kind in key])
                and all([is_kind(kind, room) for name, kind in rest]))
    except (TypeError, ValueError):
        return False


def is_kind(kind, room):
    if kind[:1] == ("number",):
        (first, low, high) = kind
        return type(low) is int and type(high) is int and low <= high
    if kind[:1] == ("word",):
        (first, words) = kind
        plain = all([type(word) is str and len(word) <= 8 and set(word) <= set(ABC + "qrstuvwxyz") for word in words])
        return type(words) is tuple and plain and 1 <= len(words) <= 12 and list(words) == sorted(set(words))
    (first, form, some) = kind
    return first == "rows" and type(some) is bool and room > 0 and is_form(form, room - 1)


class NamesTest(unittest.TestCase):
    FORM = ((("b", DIGIT), ("a", COLOR)), (("d", ONE), ("c", rows(((("x", DIGIT),), (("e", DIGIT),))))))

    def test_names_of(self):
        self.assertEqual(names_of(self.FORM), ("b", "a", "d", "c"))
        self.assertEqual(names_of((KEY, ())), ("k",))
        self.assertIsInstance(names_of((KEY, ())), tuple)

    def test_place_of(self):
        self.assertEqual([place_of(self.FORM, name) for name in "badc"], [0, 1, 2, 3])
        for place, name in enumerate(ABC):
            self.assertEqual(place_of((fields(ABC[:8]), fields(ABC[8:])), name), place)

    def test_no_field(self):
        for name in ("z", "bb", "x", "e", "number"):
            with self.subTest(name), self.assertRaises(NoField):
                place_of(self.FORM, name)

    def test_depth_of(self):
        for many in range(5):
            self.assertEqual(depth_of(nested(many)), many)
            self.assertEqual(depth_of(nested(many, True)), many)
        self.assertEqual(depth_of((KEY, ())), 0)
        self.assertEqual(depth_of(self.FORM), 1)

    def test_the_deepest_of_several_counts(self):
        one, two = ("a", rows(nested(0))), ("b", rows(nested(1)))
        self.assertEqual(depth_of((KEY, (one, two))), 2)
        self.assertEqual(depth_of((KEY, (two, one))), 2)
        self.assertEqual(depth_of((KEY, (one, ("b", rows(nested(0)))))), 1)


if __name__ == "__main__":
    unittest.main()
