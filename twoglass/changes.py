"""Changes: what leads from one table to another, row by row."""

from twoglass.errors import Stale
from twoglass.rows import by_key
from twoglass.tables import sorted_by


def changes(many, old, new):
    before = by_key(many, old)
    after = by_key(many, new)
    keys = sorted(set(list(before) + list(after)))
    return unlike([(key, before.get(key), after.get(key)) for key in keys])


def unlike(triples):
    return tuple([triple for triple in triples if triple[1] != triple[2]])


def changed(many, table, some):
    rows = by_key(many, table)
    for key, old, new in some:
        if rows.get(key) != old:
            raise Stale(key)
        rows[key] = new
    return sorted_by(many, [row for row in rows.values() if row is not None])


def joined(first, second):
    whole = dict([(change[0], change) for change in first])
    for key, old, new in second:
        earlier = whole.get(key, (key, old, old))
        if earlier[2] != old:
            raise Stale(key)
        whole[key] = (key, earlier[1], new)
    return unlike([whole[key] for key in sorted(whole)])


def undone(some):
    return tuple([(key, new, old) for key, old, new in some])
