"""A step that leaves a field away."""

from twoglass.errors import Blind, NoKey, NoKind
from twoglass.forms import place_of
from twoglass.kinds import single
from twoglass.rows import in_key, kind_at, replaced, with_fields
from twoglass.steps import Step, written
from twoglass.tables import fits, least_row


class Drop(Step):
    def __init__(self, name, value):
        self.name = name
        self.value = value

    def words(self):
        return ("drop", self.name, written(self.value))

    def view_form(self, form):
        place = place_of(form, self.name)
        kind = kind_at(form, place)
        if kind[0] == "rows" or not fits(kind, self.value):
            raise NoKind("it is a field of rows, or the value is not of its kind")
        if in_key(form, place):
            check_key(form, place)
        return with_fields(form, place, ())

    def got(self, form, table):
        place = place_of(form, self.name)
        return tuple([replaced(row, place, ()) for row in table])

    def put(self, form, table, view):
        place = place_of(form, self.name)
        many = len(self.view_form(form)[0])
        there = dict([(replaced(row, place, ())[:many], row[place]) for row in table])
        return tuple([row[:place] + (there.get(row[:many], self.value),) + row[place:] for row in view])

    def exact(self, form):
        return single(kind_at(form, place_of(form, self.name)))

    def steady(self, form):
        return self.exact(form)


def check_key(form, place):
    many = len(form[0])
    if many == 1:
        raise NoKey("no key would be left")
    kind = kind_at(form, place)
    if not single(kind):
        # Both rows look like the one alone; once that one goes, a row is left in one table and none in the other.
        row = least_row(form)
        twin = replaced(row, place, (second_value(kind),))
        raise Blind((row, twin), (row,), ((row[:many], row, None),))


def second_value(kind):
    return kind[1] + 1 if kind[0] == "number" else kind[1][1]
