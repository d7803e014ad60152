"""Fields and values by their places, and rows by their keys: what the steps and pairs have in common."""

from twoglass.tables import sorted_by


def kind_at(form, place):
    return (form[0] + form[1])[place][1]


def in_key(form, place):
    return place < len(form[0])


def replaced(values, place, others):
    return values[:place] + others + values[place + 1:]


def with_fields(form, place, fields):
    # The fields stay in the key or in the rest, whichever the one before them was in.
    if in_key(form, place):
        return (replaced(form[0], place, fields), form[1])
    return (form[0], replaced(form[1], place - len(form[0]), fields))


def named_elsewhere(form, name, places):
    fields = form[0] + form[1]
    return any([field[0] == name and place not in places for place, field in enumerate(fields)])


def by_key(many, rows):
    return dict([(row[:many], row) for row in rows])


def grouped(many, rows):
    # For each key of many values the tuple of what else the rows have that begin with it.
    groups = {}
    for row in rows:
        groups.setdefault(row[:many], []).append(row[many:])
    return dict([(key, tuple(within)) for key, within in groups.items()])


def standing(many, rows, others):
    # The rows as a table, and beside them those of the others whose keys they leave free.
    taken = by_key(many, rows)
    return sorted_by(many, list(rows) + [row for row in others if row[:many] not in taken])
