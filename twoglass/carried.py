"""Rows of changes carried through a pane: from the tables to its views, and back."""

from twoglass.changes import changed, changes
from twoglass.errors import NoTable
from twoglass.gathers import Gather
from twoglass.glasses import parts_of
from twoglass.nests import Nest, Unnest


def forward(forms, pane, house, some):
    view_forms = pane.view_forms(forms)
    after = all_changed(forms, house, some)
    return all_changes(view_forms, pane.got(forms, house), pane.got(forms, after))


def backward(forms, pane, house, some):
    view_forms = pane.view_forms(forms)
    views = all_changed(view_forms, pane.got(forms, house), some)
    return all_changes(forms, house, pane.put(forms, house, views))


def all_changed(forms, tables, some):
    # Every name is looked at ahead of any change, and the changes in the order of texts: so the refusals are told.
    if any([name not in forms for name in some]):
        raise NoTable("there is no table or view of this name")
    after = dict(tables)
    for name in sorted(some):
        after[name] = changed(len(forms[name][0]), tables[name], some[name])
    return after


def all_changes(forms, old, new):
    found = [(name, changes(len(forms[name][0]), old[name], new[name])) for name in forms]
    return dict([(name, some) for name, some in found if some])


def is_flat(glass):
    return not any([isinstance(part, (Nest, Unnest, Gather)) for part in parts_of(glass)])
