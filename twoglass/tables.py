"""Tables: tuples of rows whose keys rise."""

from twoglass.kinds import has_parts, is_whole, kinds_of, least


def fits(kind, value):
    if kind[0] == "number":
        return is_whole(value) and kind[1] <= value <= kind[2]
    if kind[0] == "word":
        return isinstance(value, str) and value in kind[1]
    return keeps(kind[1], value) and (len(value) > 0 or not kind[2])


def keeps(form, table):
    if not isinstance(table, tuple):
        return False
    kinds = kinds_of(form)
    # Keys can be compared only once all their values are known to be of their kinds.
    return all([is_row(kinds, row) for row in table]) and keys_rise(len(form[0]), table)


def is_row(kinds, row):
    if not has_parts(row, len(kinds)):
        return False
    return all([fits(kind, value) for kind, value in zip(kinds, row)])


def keys_rise(many, table):
    keys = [row[:many] for row in table]
    return all([keys[k] < keys[k + 1] for k in range(len(keys) - 1)])


def sorted_by(many, rows):
    return tuple(sorted(rows, key=lambda row: row[:many]))


def least_row(form):
    return least(("rows", form, True))[0]
