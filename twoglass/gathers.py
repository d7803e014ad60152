"""A pair that gathers, within each row of one table, the rows of another that begin with its key."""

from twoglass.errors import NoKind, TooMany, Twice
from twoglass.forms import MOST_FIELDS, MOST_WITHIN, depth_of, names_of
from twoglass.pairs import Pair, shared_key
from twoglass.rows import by_key, grouped, standing
from twoglass.tables import is_row, sorted_by


class Gather(Pair):
    def __init__(self, name):
        self.name = name

    def words(self):
        return ("gather", self.name)

    def view_form(self, one, other):
        many = len(one[0])
        if len(other[0]) <= many:
            raise NoKind("the other key has no more fields than the first")
        key = shared_key(one[0], other[0][:many])
        if self.name in names_of(one):
            raise Twice("a field of the first form has the name")
        inner = (other[0][many:], other[1])
        if len(one[1]) >= MOST_FIELDS or depth_of(inner) >= MOST_WITHIN:
            raise TooMany("more than 8 fields in the rest, or more than three kinds rows within one another")
        return (key, one[1] + ((self.name, ("rows", inner, False)),))

    def got(self, forms, tables):
        many = len(forms[0][0])
        within = grouped(many, tables[1])
        return tuple([row + (within.get(row[:many], ()),) for row in seen_rows(forms, tables[0], True)])

    def put(self, forms, tables, view):
        many = len(forms[0][0])
        one = standing(many, [row[:-1] for row in view], seen_rows(forms, tables[0], False))
        gone = by_key(many, list(view) + seen_rows(forms, tables[0], True))
        rows = [row for row in tables[1] if row[:many] not in gone]
        for row in view:
            rows.extend([row[:many] + within for within in row[-1]])
        return (one, sorted_by(len(forms[1][0]), rows))


def seen_rows(forms, table, seen):
    # A row of the first table is hidden where its key is such as the other table can't have.
    key = shared_key(forms[0][0], forms[1][0][:len(forms[0][0])])
    kinds = [field[1] for field in key]
    return [row for row in table if is_row(kinds, row[:len(kinds)]) == seen]
