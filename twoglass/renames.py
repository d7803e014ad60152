"""A step that gives a field another name."""

from twoglass.errors import Twice
from twoglass.forms import names_of, place_of
from twoglass.rows import kind_at, with_fields
from twoglass.steps import Step


class Rename(Step):
    def __init__(self, old, new):
        self.old = old
        self.new = new

    def words(self):
        return ("rename", self.old, self.new)

    def view_form(self, form):
        place = place_of(form, self.old)
        if self.new in names_of(form):
            raise Twice("there is a field of the new name")
        return with_fields(form, place, ((self.new, kind_at(form, place)),))
