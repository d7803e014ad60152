"""Panes: several glasses over the tables of one house, each under the name of its view."""

from twoglass.errors import NoTable, Twice
from twoglass.glasses import Both, Over


class Pane:
    def __init__(self, pairs):
        self.pairs = tuple(pairs)
        check_once([view for view, glass in self.pairs])
        check_once(self.tables())

    def tables(self):
        names = []
        for view, glass in self.pairs:
            names.extend(glass.names())
        return names

    def view_forms(self, forms):
        return dict([(view, glass.form(forms)) for view, glass in self.pairs])

    def got(self, forms, house):
        return dict([(view, glass.got(forms, house)) for view, glass in self.pairs])

    def put(self, forms, house, views):
        after = dict(house)
        for view, glass in self.pairs:
            after = glass.put(forms, after, views[view])
        return after


def check_once(names):
    if len(set(names)) != len(names):
        raise Twice("two views have one name, or a table is named twice")


def behind(outer, inner):
    glasses = dict(inner.pairs)
    return Pane([(view, behind_leaves(glass, glasses)) for view, glass in outer.pairs])


def behind_leaves(glass, glasses):
    if isinstance(glass, Over):
        return Over(behind_leaves(glass.glass, glasses), glass.step)
    if isinstance(glass, Both):
        return Both(behind_leaves(glass.one, glasses), behind_leaves(glass.other, glasses), glass.pair)
    if glass.name not in glasses:
        raise NoTable("the inner pane has no view of this name")
    return glasses[glass.name]


def beside(one, other):
    return Pane(one.pairs + other.pairs)
