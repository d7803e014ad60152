"""Glasses written as texts, and read from them."""

from twoglass.drops import Drop
from twoglass.errors import NoText
from twoglass.gathers import Gather
from twoglass.glasses import Both, Leaf, Over
from twoglass.kinds import is_letters, is_name, is_number_kind, is_word_kind
from twoglass.nests import Nest, Unnest
from twoglass.pairs import Join
from twoglass.parts import Fuse, Part
from twoglass.renames import Rename
from twoglass.sieves import Sieve

FIGURES = "0123456789"
MOST_FIGURES = 60
BRACKETS = "()[]"
STEPS = {
    "rename": ("name", "name"),
    "part": ("name", "number", "name", "name"),
    "fuse": ("name", "name", "number", "name"),
    "drop": ("name", "value"),
    "sieve": ("name", "number", "number"),
    "nest": ("number", "name"),
    "unnest": ("name",),
}
PAIRS = {"join": (), "gather": ("name",)}


def shown(glass):
    if isinstance(glass, Over):
        if glass.step.words() == ():
            raise NoText("a plain step has no words")
        return "(" + " ".join((shown(glass.glass),) + glass.step.words()) + ")"
    if isinstance(glass, Both):
        words = glass.pair.words()
        return "[" + " ".join((words[0], shown(glass.one), shown(glass.other)) + words[1:]) + "]"
    return glass.name


def read(text):
    # The next word lies last, where it is taken from.
    glass = read_glass(list(reversed(words_of(text))))
    # A glass is written in one way alone: so words left over, and blanks and noughts that should not be, are found.
    if shown(glass) != text:
        raise NoText("it is not written so")
    return glass


def words_of(text):
    for bracket in BRACKETS:
        text = text.replace(bracket, " " + bracket + " ")
    return text.split()


def taken(waiting):
    if not waiting:
        raise NoText("the text ends too early")
    return waiting.pop()


def taken_until(waiting, end):
    words = []
    word = taken(waiting)
    while word != end:
        words.append(word)
        word = taken(waiting)
    return words


def read_glass(waiting):
    word = taken(waiting)
    if word == "(":
        glass = read_glass(waiting)
        return Over(glass, read_step(taken_until(waiting, ")")))
    if word == "[":
        first = taken(waiting)
        one = read_glass(waiting)
        other = read_glass(waiting)
        return Both(one, other, read_pair(first, taken_until(waiting, "]")))
    return Leaf(read_name(word))


def read_pair(first, words):
    if first not in PAIRS:
        raise NoText("there is no such pair")
    values = read_values(PAIRS[first], words)
    return Join() if first == "join" else Gather(values[0])


def read_step(words):
    if not words:
        raise NoText("there is no step")
    if words[0] == "keep":
        return read_keep(words[1:])
    if words[0] not in STEPS:
        raise NoText("there is no such step")
    return made_step(words[0], read_values(STEPS[words[0]], words[1:]))


def made_step(first, values):
    if first == "rename":
        return Rename(values[0], values[1])
    if first == "part":
        return Part(values[0], values[1], values[2], values[3])
    if first == "fuse":
        return Fuse(values[0], values[1], values[2], values[3])
    if first == "drop":
        return Drop(values[0], values[1])
    if first == "sieve":
        return made_sieve(values[0], ("number", values[1], values[2]))
    if first == "nest":
        return Nest(values[0], values[1])
    return Unnest(values[0])


def read_keep(words):
    if not words:
        raise NoText("there is no field to keep by")
    return made_sieve(read_name(words[0]), ("word", tuple([read_word(word) for word in words[1:]])))


def made_sieve(name, kind):
    if not is_number_kind(kind) and not is_word_kind(kind):
        raise NoText("the low is more than the high, or the words are none, too many, or don't rise")
    return Sieve(name, kind)


def read_values(sorts, words):
    if len(sorts) != len(words):
        raise NoText("there are too few words, or too many")
    return [read_value(sort, word) for sort, word in zip(sorts, words)]


def read_value(sort, word):
    if sort == "name":
        return read_name(word)
    if sort == "number" or not word.startswith("."):
        return read_number(word)
    return read_word(word)


def read_name(word):
    if not is_name(word):
        raise NoText("it is no name")
    return word


def read_number(word):
    figures = word[1:] if word.startswith("-") else word
    if not 1 <= len(figures) <= MOST_FIGURES or not all([figure in FIGURES for figure in figures]):
        raise NoText("it is no number, or one of too many figures")
    return int(word)


def read_word(word):
    if not word.startswith(".") or not is_letters(word[1:], 0):
        raise NoText("it is no word")
    return word[1:]
