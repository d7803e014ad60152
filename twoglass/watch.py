"""A watch: a house under open panes, each of which is told what its views change by."""

from twoglass.carried import all_changed, all_changes, backward
from twoglass.errors import NoPane, Twice


class Watch:
    def __init__(self, forms, house):
        self.forms = dict(forms)
        self.house = dict(house)
        self.panes = {}

    def open_pane(self, name, pane):
        if name in self.panes:
            raise Twice("a pane is open under this name")
        # Asked for the refusal alone, ahead of keeping the pane.
        pane.view_forms(self.forms)
        self.panes[name] = pane
        return self.views(name)

    def shut(self, name):
        self.pane_of(name)
        self.panes.pop(name)

    def change_house(self, some):
        return self.become(all_changed(self.forms, self.house, some))

    def write(self, name, some):
        carried = backward(self.forms, self.pane_of(name), self.house, some)
        return self.become(all_changed(self.forms, self.house, carried))

    def house_now(self):
        return dict(self.house)

    def views(self, name):
        return self.pane_of(name).got(self.forms, self.house)

    def pane_of(self, name):
        if name not in self.panes:
            raise NoPane("no pane is open under this name")
        return self.panes[name]

    def become(self, after):
        told = {}
        for name, pane in self.panes.items():
            old = pane.got(self.forms, self.house)
            some = all_changes(pane.view_forms(self.forms), old, pane.got(self.forms, after))
            if some:
                told[name] = some
        self.house = after
        return told
