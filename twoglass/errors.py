"""The refusals: one class for each, all straight under GlassError."""


class GlassError(ValueError):
    pass


class NoForm(GlassError):
    pass


class NoTable(GlassError):
    pass


class NoField(GlassError):
    pass


class Twice(GlassError):
    pass


class NoKind(GlassError):
    pass


class Nothing(GlassError):
    pass


class NoKey(GlassError):
    pass


class TooMany(GlassError):
    pass


class Blind(GlassError):
    # Two tables that look alike, and changes behind which they do not.
    def __init__(self, one, other, change):
        self.one = one
        self.other = other
        self.change = change


class Torn(GlassError):
    # A view that no table shows.
    def __init__(self, view):
        self.view = view


class Stale(GlassError):
    # The key of the first change whose old row is not the one that is there.
    def __init__(self, key):
        self.key = key


class NoPane(GlassError):
    pass


class NoText(GlassError):
    pass
