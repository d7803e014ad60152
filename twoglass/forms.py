"""Forms: the fields of a table's key and of its rest."""

from twoglass.errors import NoField, NoForm
from twoglass.kinds import has_parts, is_name, is_number_kind, is_word_kind, kinds_of

MOST_FIELDS = 8
MOST_WITHIN = 3


def check_form(form):
    check_within(form, MOST_WITHIN)


def check_within(form, room):
    # The room left for kinds rows is counted on the way down, so that a form is never
    # followed deeper than it may be, however deep it is.
    if not has_parts(form, 2):
        raise NoForm("a form is a tuple of a key and a rest")
    check_fields(form[0], 1, 0)
    check_fields(form[1], 0, room)
    names = names_of(form)
    if len(set(names)) != len(names):
        raise NoForm("two fields of a form have one name")


def check_fields(fields, fewest, room):
    if not isinstance(fields, tuple) or not fewest <= len(fields) <= MOST_FIELDS:
        raise NoForm("a key is a tuple of 1 to 8 fields, a rest one of none to 8")
    for field in fields:
        if not has_parts(field, 2) or not is_name(field[0]):
            raise NoForm("a field is a tuple of a name and a kind")
        check_kind(field[1], room)


def check_kind(kind, room):
    if is_number_kind(kind) or is_word_kind(kind):
        return
    if not has_parts(kind, 3) or kind[0] != "rows" or not isinstance(kind[2], bool):
        raise NoForm("a kind is of numbers, of words or of rows")
    if room == 0:
        raise NoForm("a kind rows lies in a key, or more than three lie within one another")
    check_within(kind[1], room - 1)


def names_of(form):
    return tuple([field[0] for field in form[0] + form[1]])


def place_of(form, name):
    for place, other in enumerate(names_of(form)):
        if other == name:
            return place
    raise NoField("no field has this name")


def depth_of(form):
    return max([1 + depth_of(kind[1]) for kind in kinds_of(form) if kind[0] == "rows"], default=0)
