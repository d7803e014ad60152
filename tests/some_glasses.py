"""Glasses, houses and views by chance, small enough that keys meet often."""

from samples import some_table, some_value
from twoglass.drops import Drop
from twoglass.errors import GlassError
from twoglass.gathers import Gather
from twoglass.glasses import Both, Leaf, Over
from twoglass.nests import Nest, Unnest
from twoglass.pairs import Join
from twoglass.panes import Pane
from twoglass.parts import Fuse, Part
from twoglass.renames import Rename
from twoglass.sieves import Sieve
from twoglass.steps import Step
from twoglass.tables import sorted_by

NUMBERS = (("number", 0, 3), ("number", -4, 3), ("number", 0, 5), ("number", 2, 2), ("number", 0, 1))
WORDS = (("word", ("", "a", "b")), ("word", ("b",)), ("word", ("a", "b", "c")))
KEYS = (("k", ("number", 0, 3)), ("k", ("number", -4, 1)), ("l", ("number", 0, 1)), ("m", ("word", ("a", "b", "c"))),
        ("m", ("word", ("", "b", "c"))), ("n", ("number", 2, 2)))
NEW_NAMES = "pqrstuvw"


def some_kind(chance, deep):
    if deep and chance.random() < 0.2:
        inner = (((chance.choice("xyz"), chance.choice(NUMBERS)),), some_fields(chance, "fg", deep - 1))
        return ("rows", inner, chance.random() < 0.5)
    return chance.choice(NUMBERS + WORDS)


def some_fields(chance, letters, deep):
    return tuple([(letter, some_kind(chance, deep)) for letter in letters if chance.random() < 0.6])


def some_key(chance):
    """The first fields of klmn, so that keys of two tables are often alike or begin alike."""
    names = "klmn"[:chance.choice((1, 1, 2, 2, 3, 4))]
    return tuple([chance.choice([field for field in KEYS if field[0] == name]) for name in names])


def some_forms(chance, names):
    forms = {}
    for place, name in enumerate(names):
        letters = "abcdefgh"[2 * place % 8:][:2] if chance.random() < 0.9 else "ab"
        forms[name] = (some_key(chance), some_fields(chance, letters, 2))
    return forms


def some_step(chance, form):
    """Some step, perhaps one that refuses the form."""
    fields = form[0] + form[1]
    name, kind = chance.choice(fields)
    new = chance.choice(NEW_NAMES)
    by = chance.choice((2, 2, 3, 4))
    if kind[0] == "rows" and chance.random() < 0.6:
        return Unnest(name)
    way = chance.choice(("rename", "part", "fuse", "drop", "sieve", "nest"))
    if way == "rename":
        return Rename(name, new)
    if way == "part":
        return Part(name, by, new, chance.choice(NEW_NAMES + name[0]))
    if way == "fuse":
        rests = [field for field in fields if field[1][0] == "number" and field[1][1] == 0 and field[1][2] > 0]
        if rests:
            rest = chance.choice(rests)
            return Fuse(name, rest[0], rest[1][2] + 1, chance.choice((new, name, rest[0])))
    if way == "drop" and kind[0] != "rows":
        return Drop(name, some_value(chance, kind, 2))
    if way == "sieve" and kind[0] == "number":
        ends = sorted([chance.randint(-3, 4), chance.randint(-1, 6)])
        return Sieve(name, ("number", ends[0], ends[1]))
    if way == "sieve" and kind[0] == "word":
        return Sieve(name, chance.choice(WORDS))
    if way == "nest":
        return Nest(chance.randint(1, 3), new)
    return Rename(name, new) if chance.random() < 0.8 else Step()


def some_pair(chance):
    return Join() if chance.random() < 0.5 else Gather(chance.choice(NEW_NAMES))


def first_kept(forms, glasses):
    """The first of the glasses that the forms are not refused by; the last one is taken to be such."""
    for glass in glasses[:-1]:
        try:
            glass.form(forms)
        except GlassError:
            continue
        return glass
    return glasses[-1]


def some_glass(chance, forms, names, most):
    """A glass over some of the names that is not refused, of at most that many steps and pairs, often just as many."""
    if most == 0:
        return Leaf(chance.choice(names))
    if len(names) > 1 and chance.random() < 0.5:
        cut = chance.randrange(1, len(names))
        within = chance.choice((0, 0, 1, 2, chance.randint(0, most - 1)))
        left = min(within, most - 1)
        one = some_glass(chance, forms, names[:cut], left)
        other = some_glass(chance, forms, names[cut:], most - 1 - left)
        tried = [(one, other), (other, one), (Leaf(names[0]), other), (other, Leaf(names[0])), (one, Leaf(names[-1]))]
        pairs = [Both(first, second, some_pair(chance)) for first, second in tried + tried]
        return first_kept(forms, pairs + [Over(other, Step())])
    glass = some_glass(chance, forms, names, most - 1)
    form = glass.form(forms)
    return first_kept(forms, [Over(glass, some_step(chance, form)) for unused in range(8)] + [Over(glass, Step())])


def some_house(chance, forms, most):
    return {name: some_table(chance, form, most) for name, form in forms.items()}


def near_table(chance, form, table, most):
    """The table with some rows gone, some with other values, and some come."""
    many = len(form[0])
    rows = {row[:many]: row for row in some_table(chance, form, most)}
    for row in table:
        if row[:many] not in rows and chance.random() < 0.5:
            rows[row[:many]] = row
    return sorted_by(many, list(rows.values()))


def some_pane(chance, forms, names, most):
    """A pane of views u, v, w .., each over names of its own."""
    pairs = []
    left = list(names)
    for view in "uvwx"[:chance.randint(0, 4)]:
        if left:
            cut = chance.randint(1, len(left))
            pairs.append((view, some_glass(chance, forms, left[:cut], chance.randint(0, most))))
            left = left[cut:]
    return Pane(tuple(pairs))


def tree_of(glass):
    """What the glass is made of, to be compared."""
    if isinstance(glass, Leaf):
        return glass.name
    if isinstance(glass, Over):
        return (tree_of(glass.glass), glass.step.words())
    return (tree_of(glass.one), tree_of(glass.other), glass.pair.words())
