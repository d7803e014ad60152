"""Steps that nest rows in inner tables, and take them out again."""

from twoglass.errors import NoKey, NoKind, TooMany, Twice
from twoglass.forms import MOST_FIELDS, MOST_WITHIN, depth_of, names_of, place_of
from twoglass.kinds import is_whole
from twoglass.rows import grouped, kind_at, standing
from twoglass.steps import Step, written


class Nest(Step):
    def __init__(self, many, name):
        self.many = many
        self.name = name

    def words(self):
        return ("nest", written(self.many), self.name)

    def view_form(self, form):
        if not is_whole(self.many) or not 1 <= self.many < len(form[0]):
            raise NoKey("some fields of the key must stay without, and some go within")
        key = form[0][:self.many]
        if self.name in [field[0] for field in key]:
            raise Twice("a field of the view's key has the name")
        inner = (form[0][self.many:], form[1])
        if depth_of(inner) >= MOST_WITHIN:
            raise TooMany("kinds rows would lie more than three within one another")
        return (key, ((self.name, ("rows", inner, True)),))

    def got(self, form, table):
        return tuple([key + (within,) for key, within in grouped(self.many, table).items()])

    def put(self, form, table, view):
        return unnested(self.many, view)


class Unnest(Step):
    def __init__(self, name):
        self.name = name

    def words(self):
        return ("unnest", self.name)

    def view_form(self, form):
        kind = kind_at(form, place_of(form, self.name))
        if kind[0] != "rows" or len(form[1]) != 1:
            raise NoKind("it is no field of rows, or another one is beside it")
        key = form[0]
        inner = kind[1]
        if any([field[0] in names_of(inner) for field in key]):
            raise Twice("a field within has the name of one of the key")
        if len(key) + len(inner[0]) > MOST_FIELDS:
            raise TooMany("the key would have more than 8 fields")
        return (key + inner[0], inner[1])

    def got(self, form, table):
        return unnested(len(form[0]), table)

    def put(self, form, table, view):
        many = len(form[0])
        rows = [key + (within,) for key, within in grouped(many, view).items()]
        return standing(many, rows, [row for row in table if row[many] == ()])

    def exact(self, form):
        return kind_at(form, place_of(form, self.name))[2]

    def steady(self, form):
        return self.exact(form)


def unnested(many, table):
    rows = []
    for row in table:
        rows.extend([row[:many] + within for within in row[many]])
    return tuple(rows)
