"""Glasses thinned: the same seen and written with no more steps."""

from twoglass.forms import place_of
from twoglass.glasses import Both, Over, parts_of
from twoglass.kinds import both
from twoglass.nests import Nest, Unnest
from twoglass.parts import Fuse, Part
from twoglass.renames import Rename
from twoglass.sieves import Sieve


def thinned(forms, glass):
    # Asked for the refusal alone: none of what is told below holds of a glass that is refused.
    glass.form(forms)
    return thin(forms, glass)


def thin(forms, glass):
    if isinstance(glass, Over):
        return laid_over(forms, thin(forms, glass.glass), glass.step)
    if isinstance(glass, Both):
        return Both(thin(forms, glass.one), thin(forms, glass.other), glass.pair)
    return glass


def laid_over(forms, glass, step):
    # The glass is thin, so whatever can be replaced now has this step at its top.
    if is_idle(glass.form(forms), step):
        return glass
    steps = None
    if isinstance(glass, Over):
        steps = instead(glass.glass.form(forms), glass.step, step)
    if steps is None:
        return Over(glass, step)
    # There is but one, or none; it may open another replacement with what lies beneath.
    return laid_over(forms, glass.glass, steps[0]) if steps else glass.glass


def is_idle(form, step):
    # Only a plain step has no words.
    return step.words() == () or isinstance(step, Sieve) and step.exact(form)


def instead(form, lower, upper):
    # The steps, one or none, that do what both do over the form; or None.
    if isinstance(lower, Rename) and isinstance(upper, Rename):
        return renamed(lower.old, upper.new) if lower.new == upper.old else None
    if isinstance(lower, Sieve) and isinstance(upper, Sieve):
        return [Sieve(lower.name, both(lower.kind, upper.kind))] if lower.name == upper.name else None
    if isinstance(lower, Part) and isinstance(upper, Fuse):
        return renamed(lower.name, upper.name) if same_parts(lower, upper) else None
    if isinstance(lower, Fuse) and isinstance(upper, Part):
        return [] if lower.name == upper.name and same_parts(lower, upper) and is_behind(form, lower) else None
    if isinstance(lower, Nest) and isinstance(upper, Unnest):
        # What a Nest shows has no other field that could be unnested.
        return []
    if isinstance(lower, Unnest) and isinstance(upper, Nest):
        return renamed(lower.name, upper.name) if lower.exact(form) and upper.many == len(form[0]) else None
    return None


def renamed(old, new):
    return [Rename(old, new)] if old != new else []


def same_parts(one, other):
    return (one.by, one.quotient, one.rest) == (other.by, other.quotient, other.rest)


def is_behind(form, fuse):
    return place_of(form, fuse.rest) == place_of(form, fuse.quotient) + 1


def steps_of(glass):
    return len(parts_of(glass))
