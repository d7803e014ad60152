"""Glasses: each shows one table made of those of a house, and puts what it shows back into the house."""

from twoglass.errors import NoTable, Twice


class Glass:
    # By itself it has no table to show; what a glass does, its class tells.
    def names(self):
        return ()

    def form(self, forms):
        raise NoTable("a glass by itself has no table")

    def seen(self, forms, house):
        # Form and table in one walk, as each step asks for the form beneath it: a walk for each form would
        # make a glass of many steps slow.
        raise NoTable("a glass by itself has no table")

    def got(self, forms, house):
        return self.seen(forms, house)[1]

    def put(self, forms, house, view):
        raise NoTable("a glass by itself has no table")


class Leaf(Glass):
    def __init__(self, name):
        self.name = name

    def names(self):
        return (self.name,)

    def form(self, forms):
        if self.name not in forms:
            raise NoTable("no table has this name")
        return forms[self.name]

    def seen(self, forms, house):
        return (forms[self.name], house[self.name])

    def put(self, forms, house, view):
        after = dict(house)
        after[self.name] = view
        return after


class Over(Glass):
    def __init__(self, glass, step):
        self.glass = glass
        self.step = step

    def names(self):
        return self.glass.names()

    def form(self, forms):
        return self.step.view_form(self.glass.form(forms))

    def seen(self, forms, house):
        beneath = self.glass.seen(forms, house)
        return (self.step.view_form(beneath[0]), self.step.got(beneath[0], beneath[1]))

    def put(self, forms, house, view):
        beneath = self.glass.seen(forms, house)
        return self.glass.put(forms, house, self.step.put(beneath[0], beneath[1], view))


class Both(Glass):
    def __init__(self, one, other, pair):
        self.one = one
        self.other = other
        self.pair = pair

    def names(self):
        return self.one.names() + self.other.names()

    def form(self, forms):
        first = self.one.form(forms)
        second = self.other.form(forms)
        names = self.one.names()
        if any([name in names for name in self.other.names()]):
            raise Twice("a table is named by both glasses")
        return self.pair.view_form(first, second)

    def seen(self, forms, house):
        first = self.one.seen(forms, house)
        second = self.other.seen(forms, house)
        view_form = self.pair.view_form(first[0], second[0])
        return (view_form, self.pair.got((first[0], second[0]), (first[1], second[1])))

    def put(self, forms, house, view):
        first = self.one.seen(forms, house)
        second = self.other.seen(forms, house)
        tables = self.pair.put((first[0], second[0]), (first[1], second[1]), view)
        return self.other.put(forms, self.one.put(forms, house, tables[0]), tables[1])


def parts_of(glass):
    # All steps and pairs of a glass, those beneath first.
    if isinstance(glass, Over):
        return parts_of(glass.glass) + [glass.step]
    if isinstance(glass, Both):
        return parts_of(glass.one) + parts_of(glass.other) + [glass.pair]
    return []
