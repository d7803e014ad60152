"""Pairs: each makes one table of two, and puts what it shows back into both."""

from twoglass.errors import NoKind, Nothing, TooMany, Twice
from twoglass.forms import MOST_FIELDS
from twoglass.kinds import both
from twoglass.rows import by_key, standing


class Pair:
    # By itself it shows the first table as it is; what a pair does, its class tells.
    def words(self):
        return ()

    def view_form(self, one, other):
        return one

    def got(self, forms, tables):
        return tables[0]

    def put(self, forms, tables, view):
        return (view, tables[1])


class Join(Pair):
    def words(self):
        return ("join",)

    def view_form(self, one, other):
        key = shared_key(one[0], other[0])
        names = [field[0] for field in one[1]]
        if any([field[0] in names for field in other[1]]):
            raise Twice("a name is in both rests")
        if len(one[1]) + len(other[1]) > MOST_FIELDS:
            raise TooMany("the rest would have more than 8 fields")
        return (key, one[1] + other[1])

    def got(self, forms, tables):
        many = len(forms[0][0])
        others = by_key(many, tables[1])
        return tuple([row + others[row[:many]][many:] for row in tables[0] if row[:many] in others])

    def put(self, forms, tables, view):
        many = len(forms[0][0])
        end = many + len(forms[0][1])
        others = by_key(many, tables[1])
        hidden = [row for row in tables[0] if row[:many] not in others]
        one = standing(many, [row[:end] for row in view], hidden)
        other = standing(many, [row[:many] + row[end:] for row in view], tables[1])
        return (one, other)


def shared_key(one, other):
    # All of the key is asked for its sort before any of it is for its values: so the refusals are told.
    if [field[0] for field in one] != [field[0] for field in other]:
        raise NoKind("the keys have not the same names in the same order")
    if [field[1][0] for field in one] != [field[1][0] for field in other]:
        raise NoKind("two kinds of one name are not of the same sort")
    kinds = [both(field[1], twin[1]) for field, twin in zip(one, other)]
    if None in kinds:
        raise Nothing("of some field no value is in both")
    return tuple([(field[0], kind) for field, kind in zip(one, kinds)])
