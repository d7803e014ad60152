import unittest

from laws import refusal
from samples import COLOR, DIGIT, form_of, rows
from twoglass.carried import backward, forward, is_flat
from twoglass.drops import Drop
from twoglass.errors import NoField, NoTable, Stale
from twoglass.gathers import Gather
from twoglass.glasses import Both, Leaf, Over
from twoglass.nests import Nest, Unnest
from twoglass.pairs import Join
from twoglass.panes import Pane
from twoglass.parts import Fuse, Part
from twoglass.renames import Rename
from twoglass.sieves import Sieve
from twoglass.steps import Step

FORMS = {"a": form_of(DIGIT), "b": form_of(COLOR), "c": ((("k", DIGIT), ("l", COLOR)), ()), "d": form_of(DIGIT)}
HOUSE = {"a": ((1, 5), (2, 6), (3, 7)), "b": ((2, "red"), (3, ""), (8, "blue")), "c": ((2, ""), (3, "red")), "d": ()}
PAIRED = Both(Over(Leaf("a"), Rename("v", "w")), Leaf("b"), Join())
NESTED = Over(Leaf("c"), Nest(1, "in"))
PANE = Pane((("x", PAIRED), ("y", NESTED), ("z", Over(Leaf("d"), Sieve("v", ("number", 5, 9))))))


def stale_key(ask, *arguments):
    try:
        ask(*arguments)
    except Stale as error:
        return error.key
    return None


class CarriedTest(unittest.TestCase):
    def setUp(self):
        self.forms, self.house = dict(FORMS), dict(HOUSE)

    def tearDown(self):
        self.assertEqual(self.forms, FORMS)
        self.assertEqual(self.house, HOUSE)

    def asked(self, ask, some, pane=PANE):
        before = dict(some)
        told = ask(self.forms, pane, self.house, some)
        self.assertEqual(some, before)
        self.assertIsInstance(told, dict)
        self.assertIsNot(told, some)
        return told

    def test_forward(self):
        some = {"a": (((1,), (1, 5), None), ((3,), (3, 7), (3, 0)), ((8,), None, (8, 4))),
                "c": (((2, "red"), None, (2, "red")), ((3, "red"), (3, "red"), None)),
                "d": (((0,), None, (0, 4)),)}
        self.assertEqual(self.asked(forward, some), {
            "x": (((3,), (3, 7, ""), (3, 0, "")), ((8,), None, (8, 4, "blue"))),
            "y": (((2,), (2, (("",),)), (2, (("",), ("red",)))), ((3,), (3, (("red",),)), None))})

    def test_forward_from_two_tables_to_one_view(self):
        some = {"a": (((2,), (2, 6), None),), "b": (((3,), (3, ""), (3, "red")), ((8,), (8, "blue"), None))}
        self.assertEqual(self.asked(forward, some), {
            "x": (((2,), (2, 6, "red"), None), ((3,), (3, 7, ""), (3, 7, "red")))})

    def test_backward(self):
        some = {"x": (((2,), (2, 6, "red"), None), ((8,), None, (8, 1, ""))), "z": (((0,), None, (0, 7)),),
                "y": (((3,), (3, (("red",),)), (3, (("",), ("blue",)))), ((5,), None, (5, (("",),))))}
        self.assertEqual(self.asked(backward, some), {
            "a": (((2,), (2, 6), None), ((8,), None, (8, 1))),
            "b": (((8,), (8, "blue"), (8, "")),),
            "c": (((3, ""), None, (3, "")), ((3, "blue"), None, (3, "blue")), ((3, "red"), (3, "red"), None),
                  ((5, ""), None, (5, ""))),
            "d": (((0,), None, (0, 7)),)})

    def test_changes_of_no_row(self):
        for ask, names in ((forward, "abcd"), (backward, "xyz")):
            self.assertEqual(self.asked(ask, {}), {})
            self.assertEqual(self.asked(ask, {name: () for name in names}), {})
            self.assertEqual(self.asked(ask, {}, Pane(())), {})

    def test_only_names_with_some_change(self):
        self.assertEqual(self.asked(forward, {"a": (((1,), (1, 5), None),), "b": ()}), {})
        self.assertEqual(self.asked(forward, {"a": (((2,), (2, 6), None),)}, Pane((("y", NESTED),))), {})
        self.assertEqual(self.asked(backward, {"x": (), "z": (((0,), None, (0, 7)),)}), {"d": (((0,), None, (0, 7)),)})

    def test_a_table_that_no_view_shows(self):
        self.assertEqual(self.asked(forward, {"d": (((0,), None, (0, 7)),)}, Pane((("v", Leaf("a")),))), {})

    def test_a_view_called_like_another_table(self):
        pane = Pane((("a", Leaf("b")), ("b", Over(Leaf("a"), Step()))))
        self.assertEqual(self.asked(forward, {"a": (((1,), (1, 5), None),)}, pane), {"b": (((1,), (1, 5), None),)})
        self.assertEqual(self.asked(backward, {"b": (((1,), (1, 5), None),)}, pane), {"a": (((1,), (1, 5), None),)})

    def test_each_dict_is_a_new_one(self):
        some = {"z": (((0,), None, (0, 7)),)}
        for unused in range(2):
            told = self.asked(backward, some)
            self.assertEqual(told, {"d": (((0,), None, (0, 7)),)})
            told.clear()


class CarriedRefusedTest(unittest.TestCase):
    STALE = (((4,), (4, 0), None),)
    BAD = Pane((("x", Over(Leaf("a"), Rename("q", "r"))), ("y", Leaf("none"))))

    def test_the_forms_first(self):
        for ask in (forward, backward):
            self.assertEqual(refusal(ask, FORMS, self.BAD, HOUSE, {}), NoField)
            self.assertEqual(refusal(ask, FORMS, self.BAD, HOUSE, {"none": (), "a": self.STALE, "x": self.STALE}), NoField)
            self.assertEqual(refusal(ask, FORMS, Pane((("x", Leaf("none")),)), HOUSE, {}), NoTable)

    def test_then_the_names(self):
        self.assertEqual(refusal(forward, FORMS, PANE, HOUSE, {"x": ()}), NoTable)
        self.assertEqual(refusal(backward, FORMS, PANE, HOUSE, {"a": ()}), NoTable)
        self.assertEqual(refusal(forward, FORMS, PANE, HOUSE, {"a": self.STALE, "none": ()}), NoTable)
        self.assertEqual(refusal(backward, FORMS, PANE, HOUSE, {"x": (((4,), (4, 0, ""), None),), "zz": ()}), NoTable)
        self.assertEqual(refusal(forward, FORMS, Pane(()), HOUSE, {"none": ()}), NoTable)
        self.assertEqual(refusal(backward, FORMS, Pane(()), HOUSE, {"a": ()}), NoTable)

    def test_then_the_changes_in_the_order_of_texts(self):
        for some in ({"b": (((9,), (9, ""), None),), "a": (((0,), None, (0, 1)), ((3,), (3, 0), None))},
                     {"a": (((0,), None, (0, 1)), ((3,), (3, 0), None)), "b": (((9,), (9, ""), None),)}):
            self.assertEqual(stale_key(forward, FORMS, PANE, HOUSE, some), (3,))
            self.assertEqual(refusal(forward, FORMS, PANE, HOUSE, some), Stale)
        for some in ({"y": (((1,), (1, (("",),)), None),), "z": (((0,), (0, 5), None),)},
                     {"z": (((0,), (0, 5), None),), "y": (((1,), (1, (("",),)), None),)}):
            self.assertEqual(stale_key(backward, FORMS, PANE, HOUSE, some), (1,))

    def test_each_way_of_being_stale(self):
        for change, key in ((((1,), None, (1, 0)), (1,)), (((0,), (0, 0), None), (0,)), (((2,), (2, 5), (2, 4)), (2,))):
            self.assertEqual(stale_key(forward, FORMS, PANE, HOUSE, {"a": (change,)}), key)
            self.assertEqual(stale_key(forward, FORMS, Pane(()), HOUSE, {"a": (change,)}), key)

    def test_backward_the_view_as_it_is(self):
        house = {**HOUSE, "d": ((0, 1), (1, 7))}
        self.assertEqual(stale_key(backward, FORMS, PANE, house, {"z": (((0,), (0, 1), None),)}), (0,))
        self.assertEqual(backward(FORMS, PANE, house, {"z": (((0,), None, (0, 8)),)}), {"d": (((0,), (0, 1), (0, 8)),)})


class FlatTest(unittest.TestCase):
    FLAT = (Step(), Rename("a", "b"), Part("a", 2, "b", "c"), Fuse("a", "b", 2, "c"), Drop("a", 1),
            Sieve("a", DIGIT), Sieve("a", COLOR))
    NOT_FLAT = (Nest(1, "a"), Unnest("a"))

    def around(self, glass):
        """The glass alone, under and over others, and deep in pairs."""
        yield glass
        yield Over(Over(glass, Rename("x", "y")), Step())
        yield Both(glass, Leaf("p"), Join())
        yield Both(Over(Leaf("p"), Drop("x", 0)), glass, Join())
        yield Over(Both(Leaf("q"), Over(Both(Leaf("p"), Over(glass, Step()), Join()), Step()), Join()), Rename("x", "y"))

    def test_each_step(self):
        self.assertIs(is_flat(Leaf("a")), True)
        for step in self.FLAT:
            for glass in self.around(Over(Leaf("a"), step)):
                self.assertIs(is_flat(glass), True)
        for step in self.NOT_FLAT:
            for glass in self.around(Over(Over(Leaf("a"), Step()), step)):
                self.assertIs(is_flat(glass), False)

    def test_each_pair(self):
        for pair, due in ((Join(), True), (Gather("x"), False)):
            for glass in self.around(Both(Leaf("a"), Leaf("b"), pair)):
                self.assertIs(is_flat(glass), due)

    def test_a_field_of_rows_alone_does_not_count(self):
        forms = {"a": form_of(rows(form_of(DIGIT)))}
        glass = Over(Leaf("a"), Rename("v", "w"))
        self.assertEqual(glass.form(forms)[1][0][0], "w")
        self.assertIs(is_flat(glass), True)


if __name__ == "__main__":
    unittest.main()
