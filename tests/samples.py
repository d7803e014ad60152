"""Small forms, and all values of small kinds, for the tests to compare with."""

import itertools

DIGIT = ("number", 0, 9)
COLOR = ("word", ("", "blue", "red"))
ONE = ("number", 7, 7)
ATOMS = (None, True, False, 0, 1, -1, 9, 10, 10 ** 59, "", "a", "blue", "number", "word", "rows", "A", "a b", "\n")


def rows(form, some=False):
    return ("rows", form, some)


def form_of(kind):
    """A form with a number as its key and the kind as its one other field."""
    return ((("k", DIGIT),), (("v", kind),))


def nested(many, some=False, kind=DIGIT):
    """A form in which kinds rows lie many within one another, the kind innermost."""
    form = form_of(kind)
    for unused in range(many):
        form = form_of(rows(form, some))
    return form


def values_of(kind):
    """All values of a small kind, reckoned by going through all of them."""
    if kind[0] == "number":
        return list(range(kind[1], kind[2] + 1))
    if kind[0] == "word":
        return list(kind[1])
    tables = tables_of(kind[1])
    return [table for table in tables if table] if kind[2] else tables


def tables_of(form):
    keys = sorted(itertools.product(*[values_of(kind) for name, kind in form[0]]))
    rests = list(itertools.product(*[values_of(kind) for name, kind in form[1]]))
    tables = [()]
    for key in keys:
        tables = tables + [table + (key + rest,) for table in tables for rest in rests]
    return tables


def junk(chance, deep):
    """Something made of tuples, lists, texts, whole numbers, truths and None."""
    if deep == 0 or chance.random() < 0.3:
        return chance.choice(ATOMS)
    parts = [junk(chance, deep - 1) for unused in range(chance.randrange(4))]
    return tuple(parts) if chance.random() < 0.8 else parts


def spoiled(chance, thing):
    """The same with one part, somewhere in it, exchanged, left away, doubled, or made a list."""
    if not isinstance(thing, tuple) or not thing or chance.random() < 0.15:
        return [list(thing) if isinstance(thing, tuple) else [thing], junk(chance, 2), (thing,)][chance.randrange(3)]
    place = chance.randrange(len(thing))
    way = chance.randrange(6)
    if way == 0:
        return thing[:place] + thing[place + 1:]
    if way == 1:
        return thing[:place] + (thing[place],) + thing[place:]
    if way == 2:
        return thing[::-1]
    return thing[:place] + (spoiled(chance, thing[place]),) + thing[place + 1:]


def some_value(chance, kind, most):
    if kind[0] == "number":
        return chance.choice((kind[1], kind[2], chance.randint(kind[1], kind[2])))
    if kind[0] == "word":
        return chance.choice(kind[1])
    return some_table(chance, kind[1], most, 1 if kind[2] else 0)


def some_table(chance, form, most, fewest=0):
    """A table of the form, of fewest to most rows, or fewer where keys come twice."""
    rows_by_key = {}
    for unused in range(chance.randint(fewest, most)):
        key = tuple([some_value(chance, kind, 3) for name, kind in form[0]])
        rows_by_key[key] = key + tuple([some_value(chance, kind, 3) for name, kind in form[1]])
    return tuple([rows_by_key[key] for key in sorted(rows_by_key)])
