"""Whether of views put one behind the other the last one alone counts; and where it does not, a witness."""

from twoglass.drops import Drop, second_value
from twoglass.forms import place_of
from twoglass.gathers import Gather
from twoglass.glasses import Both, Over
from twoglass.kinds import least
from twoglass.rows import kind_at, replaced
from twoglass.sieves import Sieve
from twoglass.tables import fits, least_row


def lasting(forms, glass):
    # Between the top and what is not steady there are steady steps alone. Through these the row that is put at the
    # top, into empty tables, comes down as some rows here, and an empty view as no row at all.
    row = (least_row(glass.form(forms)),)
    house = dict([(name, ()) for name in glass.names()])
    here = row
    while isinstance(glass, Over):
        form = glass.glass.form(forms)
        if not glass.step.steady(form):
            house = glass.glass.put(forms, house, hidden_rows(form, glass.step, here))
            return (house,) + two_views(glass.step, row)
        here = glass.step.put(form, (), here)
        glass = glass.glass
    if not isinstance(glass, Both):
        return None
    tables = hidden_tables((glass.one.form(forms), glass.other.form(forms)), glass.pair, here)
    house = glass.other.put(forms, glass.one.put(forms, house, tables[0]), tables[1])
    return (house, row, ())


def two_views(step, row):
    # A Drop forgets a value as the empty view takes its row away; the others forget a row as one of its key comes.
    return ((), row) if isinstance(step, Drop) else (row, ())


def hidden_rows(form, step, here):
    if isinstance(step, Drop):
        place = place_of(form, step.name)
        value = other_value(kind_at(form, place), step.value)
        return tuple([row[:place] + (value,) + row[place:] for row in here])
    if isinstance(step, Sieve):
        place = place_of(form, step.name)
        return (replaced(here[0], place, (unfit_value(kind_at(form, place), step.kind),)),)
    # An Unnest shows nothing of a row whose inner table is empty.
    return (here[0][:len(form[0])] + ((),),)


def other_value(kind, value):
    return least(kind) if value != least(kind) else second_value(kind)


def unfit_value(kind, shown):
    if kind[0] == "number":
        return kind[1] if not fits(shown, kind[1]) else kind[2]
    return [word for word in kind[1] if not fits(shown, word)][0]


def hidden_tables(forms, pair, here):
    many = len(forms[0][0])
    if isinstance(pair, Gather):
        inner = (forms[1][0][many:], forms[1][1])
        return ((), (here[0][:many] + least_row(inner),))
    return (tuple([row[:many + len(forms[0][1])] for row in here]), ())
