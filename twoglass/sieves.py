"""A step that shows only the rows whose value in one field is of a kind."""

from twoglass.errors import NoKind, Nothing
from twoglass.forms import place_of
from twoglass.kinds import both
from twoglass.rows import in_key, kind_at, standing, with_fields
from twoglass.steps import Step, written
from twoglass.tables import fits


class Sieve(Step):
    def __init__(self, name, kind):
        self.name = name
        self.kind = kind

    def words(self):
        if self.kind[0] == "number":
            return ("sieve", self.name, written(self.kind[1]), written(self.kind[2]))
        return ("keep", self.name) + tuple([written(word) for word in self.kind[1]])

    def view_form(self, form):
        place = place_of(form, self.name)
        kind = kind_at(form, place)
        if kind[0] != self.kind[0]:
            raise NoKind("the field's kind is of another sort")
        shown = both(kind, self.kind)
        if shown is None:
            raise Nothing("no value is in both kinds")
        return with_fields(form, place, ((self.name, shown),))

    def got(self, form, table):
        place = place_of(form, self.name)
        return tuple([row for row in table if fits(self.kind, row[place])])

    def put(self, form, table, view):
        place = place_of(form, self.name)
        hidden = [row for row in table if not fits(self.kind, row[place])]
        return standing(len(form[0]), view, hidden)

    def exact(self, form):
        kind = kind_at(form, place_of(form, self.name))
        return both(kind, self.kind) == kind

    def steady(self, form):
        return self.exact(form) or in_key(form, place_of(form, self.name))
