import itertools
import random
import unittest

from samples import COLOR, DIGIT, form_of, rows, some_table, tables_of
from twoglass.changes import changed, changes, joined, undone
from twoglass.errors import Stale

BIT = ("number", 0, 1)
SMALL = (((("k", BIT),), (("v", BIT),)), ((("a", BIT), ("b", ("word", ("", "x")))), ()))
GREAT = ((("n", ("number", -20, 20)), ("w", COLOR)), (("v", DIGIT), ("in", rows(form_of(COLOR)))))


def stale_key(function, *arguments):
    try:
        function(*arguments)
    except Stale as error:
        return error.key
    return None


def apart(many, old, new):
    """The changes, reckoned key by key from the words of the document."""
    keys = sorted({row[:many] for row in old + new})
    found = []
    for key in keys:
        before = [row for row in old if row[:many] == key] + [None]
        after = [row for row in new if row[:many] == key] + [None]
        if before[0] != after[0]:
            found.append((key, before[0], after[0]))
    return tuple(found)


class ChangesTest(unittest.TestCase):
    def test_of_a_table_and_itself(self):
        table = ((1, "a", 5), (1, "b", 5), (2, "a", 0))
        for many in (2, 3):
            self.assertEqual(changes(many, table, tuple(table)), ())
        self.assertEqual(changes(1, (), ()), ())

    def test_rows_that_come_go_and_change_in_rising_keys(self):
        old = ((1, "gone"), (2, "same"), (3, "old"), (10, "gone"))
        new = ((-1, "come"), (2, "same"), (3, "new"), (9, "come"))
        self.assertEqual(changes(1, old, new), (
            ((-1,), None, (-1, "come")), ((1,), (1, "gone"), None), ((3,), (3, "old"), (3, "new")),
            ((9,), None, (9, "come")), ((10,), (10, "gone"), None)))

    def test_from_and_to_the_empty_table(self):
        table = (("a", 1), ("b", 2))
        self.assertEqual(changes(1, (), table), ((("a",), None, ("a", 1)), (("b",), None, ("b", 2))))
        self.assertEqual(changes(1, table, ()), ((("a",), ("a", 1), None), (("b",), ("b", 2), None)))

    def test_keys_of_several_fields(self):
        old = ((1, "a", 5), (1, "b", 5), (2, "a", 0))
        new = ((1, "a", 6), (1, "c", 5), (2, "a", 0))
        self.assertEqual(changes(2, old, new), (
            ((1, "a"), (1, "a", 5), (1, "a", 6)), ((1, "b"), (1, "b", 5), None), ((1, "c"), None, (1, "c", 5))))
        self.assertEqual(changes(3, old, new), (
            ((1, "a", 5), (1, "a", 5), None), ((1, "a", 6), None, (1, "a", 6)),
            ((1, "b", 5), (1, "b", 5), None), ((1, "c", 5), None, (1, "c", 5))))

    def test_a_key_that_is_the_whole_row(self):
        self.assertEqual(changes(1, ((1,), (2,)), ((2,), (3,))), (((1,), (1,), None), ((3,), None, (3,))))

    def test_rows_with_inner_tables(self):
        old = ((1, ((1, "a"),)), (2, ()), (3, ((1, "a"), (2, "b"))))
        new = ((1, ((1, "b"),)), (2, ()), (3, ((1, "a"),)))
        self.assertEqual(changes(1, old, new), (
            ((1,), (1, ((1, "a"),)), (1, ((1, "b"),))), ((3,), (3, ((1, "a"), (2, "b"))), (3, ((1, "a"),)))))

    def test_as_reckoned_key_by_key(self):
        for form in SMALL:
            many = len(form[0])
            for old, new in itertools.product(tables_of(form), repeat=2):
                self.assertEqual(changes(many, old, new), apart(many, old, new))
        chance = random.Random(11)
        for unused in range(60):
            old, new = some_table(chance, GREAT, 60), some_table(chance, GREAT, 60)
            self.assertEqual(changes(2, old, new), apart(2, old, new))


class ChangedTest(unittest.TestCase):
    TABLE = ((1, "a"), (3, "b"), (5, "c"))

    def test_by_none_it_is_itself(self):
        self.assertEqual(changed(1, self.TABLE, ()), self.TABLE)
        self.assertEqual(changed(1, (), ()), ())

    def test_rows_that_come_go_and_change(self):
        some = (((0,), None, (0, "z")), ((1,), (1, "a"), None), ((3,), (3, "b"), (3, "y")), ((4,), None, (4, "x")))
        self.assertEqual(changed(1, self.TABLE, some), ((0, "z"), (3, "y"), (4, "x"), (5, "c")))

    def test_to_and_from_the_empty_table(self):
        some = changes(1, (), self.TABLE)
        self.assertEqual(changed(1, (), some), self.TABLE)
        self.assertEqual(changed(1, self.TABLE, undone(some)), ())

    def test_another_row_is_there(self):
        self.assertEqual(stale_key(changed, 1, self.TABLE, (((3,), (3, "x"), (3, "y")),)), (3,))
        self.assertEqual(stale_key(changed, 1, self.TABLE, (((3,), (3, "x"), None),)), (3,))

    def test_none_is_there(self):
        self.assertEqual(stale_key(changed, 1, self.TABLE, (((2,), (2, "x"), (2, "y")),)), (2,))
        self.assertEqual(stale_key(changed, 1, self.TABLE, (((2,), (2, "x"), None),)), (2,))
        self.assertEqual(stale_key(changed, 1, (), (((2,), (2, "x"), None),)), (2,))

    def test_one_is_there_where_old_is_none(self):
        self.assertEqual(stale_key(changed, 1, self.TABLE, (((5,), None, (5, "x")),)), (5,))
        self.assertEqual(stale_key(changed, 1, self.TABLE, (((5,), None, (5, "c")),)), (5,))

    def test_the_new_row_is_there_already(self):
        self.assertEqual(stale_key(changed, 1, self.TABLE, (((5,), (5, "x"), (5, "c")),)), (5,))

    def test_unlike_in_an_inner_table_alone(self):
        table = ((1, ((1, "a"),)),)
        self.assertEqual(stale_key(changed, 1, table, (((1,), (1, ()), None),)), (1,))
        self.assertEqual(changed(1, table, (((1,), (1, ((1, "a"),)), (1, ())),)), ((1, ()),))

    def test_the_first_that_does_not_fit_is_told(self):
        some = (((1,), (1, "a"), None), ((2,), (2, "x"), None), ((3,), None, (3, "y")), ((5,), (5, "c"), None))
        self.assertEqual(stale_key(changed, 1, self.TABLE, some), (2,))
        self.assertEqual(stale_key(changed, 1, self.TABLE, some[2:]), (3,))
        self.assertEqual(stale_key(changed, 2, ((1, 2, 3),), (((1, 1), None, (1, 1, 0)), ((1, 2), None, (1, 2, 3)))),
                         (1, 2))

    def test_by_the_changes_to_another_it_is_that(self):
        for form in SMALL:
            many = len(form[0])
            for old, new in itertools.product(tables_of(form), repeat=2):
                self.assertEqual(changed(many, old, changes(many, old, new)), new)

    def test_by_a_part_of_them(self):
        chance = random.Random(12)
        for unused in range(100):
            old, new = some_table(chance, GREAT, 40), some_table(chance, GREAT, 40)
            some = tuple([change for change in changes(2, old, new) if chance.random() < 0.5])
            keys = [change[0] for change in some]
            kept = [row for row in old if row[:2] not in keys] + [row for row in new if row[:2] in keys]
            between = changed(2, old, some)
            self.assertIsInstance(between, tuple)
            self.assertEqual(between, tuple(sorted(kept, key=lambda row: row[:2])))
            self.assertEqual(changes(2, old, between), some)

    def test_as_the_first_misfit_among_all_small_tables(self):
        form = SMALL[0]
        for old, new, other in itertools.product(tables_of(form), repeat=3):
            some = changes(1, old, new)
            misfits = [key for key, row, unused in some if (row or None) not in
                       ([found for found in other if found[:1] == key] or [None])]
            self.assertEqual(stale_key(changed, 1, other, some), misfits[0] if misfits else None)


class JoinedTest(unittest.TestCase):
    def test_a_key_in_one_alone(self):
        first = (((2,), None, (2, "a")), ((9,), (9, "a"), None))
        second = (((-1,), (-1, "x"), (-1, "y")), ((5,), None, (5, "b")), ((10,), (10, "b"), None))
        self.assertEqual(joined(first, second), (second[0], first[0], second[1], first[1], second[2]))
        self.assertEqual(joined(second, first), (second[0], first[0], second[1], first[1], second[2]))

    def test_with_none(self):
        some = (((2,), None, (2, "a")),)
        self.assertEqual(joined(some, ()), some)
        self.assertEqual(joined((), some), some)
        self.assertEqual(joined((), ()), ())

    def test_a_key_in_both(self):
        a, b, c = (1, "a"), (1, "b"), (1, "c")
        for old, between, new in ((a, b, c), (None, b, c), (a, None, c), (a, b, None)):
            self.assertEqual(joined((((1,), old, between),), (((1,), between, new),)), (((1,), old, new),))

    def test_a_key_in_both_with_nothing_left_of_it(self):
        a, b = (1, "a"), (1, "b")
        stays = ((3,), None, (3, "x"))
        for old, between in ((a, b), (None, b), (a, None)):
            first, second = ((1,), old, between), ((1,), between, old)
            self.assertEqual(joined((first,), (second,)), ())
            self.assertEqual(joined((first, stays), (second,)), (stays,))
            self.assertEqual(joined((first,), (second, stays)), (stays,))

    def test_rows_between_that_are_unlike(self):
        a, b, c = (1, "a"), (1, "b"), (1, "c")
        for between, other in ((b, c), (b, None), (None, c)):
            self.assertEqual(stale_key(joined, (((1,), a, between),), (((1,), other, (1, "d")),)), (1,))
        self.assertEqual(stale_key(joined, (((1,), a, b),), (((1,), a, b),)), (1,))

    def test_the_first_key_is_told(self):
        first = (((1,), None, (1, "a")), ((2,), None, (2, "a")), ((4,), (4, "a"), (4, "b")), ((6,), (6, "a"), None))
        second = (((0,), None, (0, "a")), ((1,), (1, "a"), None), ((3,), (3, "z"), None), ((4,), (4, "a"), None),
                  ((6,), (6, "a"), None))
        self.assertEqual(stale_key(joined, first, second), (4,))
        self.assertEqual(stale_key(joined, first[3:], second), (6,))
        self.assertIsNone(stale_key(joined, first[:2], second))

    def test_at_once_what_both_do(self):
        for form in SMALL:
            many = len(form[0])
            for one, two, three in itertools.product(tables_of(form), repeat=3):
                some = joined(changes(many, one, two), changes(many, two, three))
                self.assertEqual(some, apart(many, one, three))

    def test_in_either_grouping_the_same(self):
        chance = random.Random(13)
        for unused in range(60):
            tables = [some_table(chance, GREAT, 30) for other in range(4)]
            first, second, third = [changes(2, tables[k], tables[k + 1]) for k in range(3)]
            left, right = joined(joined(first, second), third), joined(first, joined(second, third))
            self.assertEqual(left, right)
            self.assertEqual(changed(2, tables[0], left), tables[3])


class UndoneTest(unittest.TestCase):
    def test_old_and_new_are_exchanged(self):
        some = (((1,), None, (1, "a")), ((2,), (2, "b"), (2, "c")), ((3,), (3, "d"), None))
        self.assertEqual(undone(some), (((1,), (1, "a"), None), ((2,), (2, "c"), (2, "b")), ((3,), None, (3, "d"))))
        self.assertEqual(undone(()), ())

    def test_twice_and_back(self):
        chance = random.Random(14)
        for unused in range(60):
            old, new = some_table(chance, GREAT, 40), some_table(chance, GREAT, 40)
            some = changes(2, old, new)
            self.assertEqual(undone(undone(some)), some)
            self.assertEqual(undone(some), apart(2, new, old))
            self.assertEqual(changed(2, changed(2, old, some), undone(some)), old)
            self.assertEqual(joined(some, undone(some)), ())
            self.assertEqual(joined(undone(some), some), ())


class NothingIsChangedTest(unittest.TestCase):
    def test_what_is_handed_in_stays(self):
        old, new = ((1, "a"), (2, "b")), ((2, "c"), (3, "d"))
        some = changes(1, old, new)
        before = repr((old, new, some))
        changed(1, old, some)
        joined(some, undone(some))
        stale_key(changed, 1, new, some)
        self.assertEqual(repr((old, new, some)), before)


if __name__ == "__main__":
    unittest.main()
