"""Steps that part a number into quotient and rest, and fuse the two again."""

from twoglass.errors import NoKind, TooMany, Torn, Twice
from twoglass.forms import MOST_FIELDS, place_of
from twoglass.rows import in_key, kind_at, named_elsewhere, replaced, with_fields
from twoglass.steps import Step, written
from twoglass.tables import least_row, sorted_by

LEAST_BY = 2
MOST_BY = 1000000000


class Part(Step):
    def __init__(self, name, by, quotient, rest):
        self.name = name
        self.by = by
        self.quotient = quotient
        self.rest = rest

    def words(self):
        return ("part", self.name, written(self.by), self.quotient, self.rest)

    def view_form(self, form):
        place = place_of(form, self.name)
        kind = kind_at(form, place)
        if kind[0] != "number" or not LEAST_BY <= self.by <= MOST_BY:
            raise NoKind("only a number is parted, and by 2 to 10 ** 9")
        self.check_names(form, place)
        if len(form[0] if in_key(form, place) else form[1]) >= MOST_FIELDS:
            raise TooMany("there is no room for one more field")
        self.check_ends(form, place)
        quotients = ("number", kind[1] // self.by, kind[2] // self.by)
        rests = ("number", 0, self.by - 1)
        return with_fields(form, place, ((self.quotient, quotients), (self.rest, rests)))

    def check_names(self, form, place):
        if self.quotient == self.rest:
            raise Twice("quotient and rest have one name")
        if named_elsewhere(form, self.quotient, (place,)) or named_elsewhere(form, self.rest, (place,)):
            raise Twice("another field has the name of the quotient or of the rest")

    def check_ends(self, form, place):
        # Where the kind ends amid a quotient, the view's kinds let a rest by that lies beyond that end.
        kind = kind_at(form, place)
        row = least_row(form)
        if kind[1] % self.by != 0:
            raise Torn((replaced(row, place, (kind[1] // self.by, 0)),))
        if (kind[2] + 1) % self.by != 0:
            raise Torn((replaced(row, place, (kind[2] // self.by, self.by - 1)),))

    def got(self, form, table):
        place = place_of(form, self.name)
        return tuple([replaced(row, place, (row[place] // self.by, row[place] % self.by)) for row in table])

    def put(self, form, table, view):
        place = place_of(form, self.name)
        return tuple([row[:place] + (row[place] * self.by + row[place + 1],) + row[place + 2:] for row in view])


class Fuse(Step):
    def __init__(self, quotient, rest, by, name):
        self.quotient = quotient
        self.rest = rest
        self.by = by
        self.name = name

    def words(self):
        return ("fuse", self.quotient, self.rest, written(self.by), self.name)

    def view_form(self, form):
        place = place_of(form, self.quotient)
        gone = place_of(form, self.rest)
        self.check_kinds(form, place, gone)
        if named_elsewhere(form, self.name, (place, gone)):
            raise Twice("another field has the name")
        kind = kind_at(form, place)
        numbers = ("number", kind[1] * self.by, kind[2] * self.by + self.by - 1)
        # The quotient's place may move as the rest goes, so the rest goes last.
        return with_fields(with_fields(form, place, ((self.name, numbers),)), gone, ())

    def check_kinds(self, form, place, gone):
        if place == gone or in_key(form, place) != in_key(form, gone):
            raise NoKind("quotient and rest are two fields, both in the key or both not")
        if kind_at(form, place)[0] != "number" or not LEAST_BY <= self.by <= MOST_BY:
            raise NoKind("only numbers are fused, and by 2 to 10 ** 9")
        if kind_at(form, gone) != ("number", 0, self.by - 1):
            raise NoKind("the rest is no number from 0 to by - 1")

    def got(self, form, table):
        place = place_of(form, self.quotient)
        gone = place_of(form, self.rest)
        rows = []
        for row in table:
            number = row[place] * self.by + row[gone]
            rows.append(replaced(replaced(row, place, (number,)), gone, ()))
        return sorted_by(len(self.view_form(form)[0]), rows)

    def put(self, form, table, view):
        place = place_of(form, self.quotient)
        gone = place_of(form, self.rest)
        rows = []
        for row in view:
            # Room for the rest first: then the quotient stands where the form has it.
            wide = row[:gone] + (0,) + row[gone:]
            number = wide[place]
            rows.append(replaced(replaced(wide, place, (number // self.by,)), gone, (number % self.by,)))
        return sorted_by(len(form[0]), rows)
