import random
import re
import unittest

from laws import refusal
from some_glasses import some_forms, some_glass, tree_of
from twoglass.drops import Drop
from twoglass.errors import NoText
from twoglass.gathers import Gather
from twoglass.glasses import Both, Leaf, Over, parts_of
from twoglass.nests import Nest, Unnest
from twoglass.pairs import Join
from twoglass.parts import Fuse, Part
from twoglass.renames import Rename
from twoglass.sieves import Sieve
from twoglass.steps import Step
from twoglass.texts import read, shown

GREAT = 10 ** 60 - 1
TWELVE = tuple("abcdefghijkl")
STEPS = {
    "rename x y": Rename("x", "y"), "rename rename rename": Rename("rename", "rename"),
    "part n 5 q r": Part("n", 5, "q", "r"), "part n -3 n n": Part("n", -3, "n", "n"),
    "part n 0 q r": Part("n", 0, "q", "r"), f"part n {GREAT} q r": Part("n", GREAT, "q", "r"),
    "fuse q r 10 n": Fuse("q", "r", 10, "n"), "fuse q q -1 q": Fuse("q", "q", -1, "q"),
    "drop n 7": Drop("n", 7), "drop n 0": Drop("n", 0), "drop n -7": Drop("n", -7), "drop w .": Drop("w", ""),
    "drop w .abcdefgh": Drop("w", "abcdefgh"), f"drop n -{GREAT}": Drop("n", -GREAT),
    "sieve n -5 10": Sieve("n", ("number", -5, 10)), "sieve n 0 0": Sieve("n", ("number", 0, 0)),
    "sieve n -10 -9": Sieve("n", ("number", -10, -9)), f"sieve n -{GREAT} {GREAT}": Sieve("n", ("number", -GREAT, GREAT)),
    "keep w .": Sieve("w", ("word", ("",))), "keep w . .a .ab .b": Sieve("w", ("word", ("", "a", "ab", "b"))),
    "keep keep .keep": Sieve("keep", ("word", ("keep",))), "keep w ." + " .".join(TWELVE): Sieve("w", ("word", TWELVE)),
    "nest 1 i": Nest(1, "i"), "nest 0 i": Nest(0, "i"), "nest -12 i": Nest(-12, "i"), "unnest i": Unnest("i"),
}

# An own reckoning of what is written: brackets with none within are glasses, and stand as @ from then on.
NAME, NUMBER, WORD = "[a-z]{1,8}", "(?:0|-?[1-9][0-9]{0,59})", "[.][a-z]{0,8}"
GLASS = f"(?:{NAME}|@)"
PLAIN = re.compile(rf"""[(]{GLASS}\ (?:rename\ {NAME}\ {NAME}|part\ {NAME}\ {NUMBER}\ {NAME}\ {NAME}|unnest\ {NAME}|
fuse\ {NAME}\ {NAME}\ {NUMBER}\ {NAME}|drop\ {NAME}\ (?:{NUMBER}|{WORD})|nest\ {NUMBER}\ {NAME})[)]|
\[join\ {GLASS}\ {GLASS}\]|\[gather\ {GLASS}\ {GLASS}\ {NAME}\]""", re.VERBOSE)
SIEVE = re.compile(rf"[(]{GLASS} sieve {NAME} ({NUMBER}) ({NUMBER})[)]")
KEEP = re.compile(rf"[(]{GLASS} keep {NAME}((?: {WORD}){{1,12}})[)]")


def rises(match):
    words = match.group(1).split(" ")[1:]
    return "@" if words == sorted(set(words)) else "!"


def is_written(text):
    if "@" in text:
        return False
    before = None
    while text != before:
        before = text
        text = PLAIN.sub("@", text)
        text = SIEVE.sub(lambda match: "@" if int(match.group(1)) <= int(match.group(2)) else "!", text)
        text = KEEP.sub(rises, text)
    return re.fullmatch(GLASS, text) is not None


class WrittenTest(unittest.TestCase):
    def check(self, glass, text):
        self.assertEqual(shown(glass), text)
        self.assertEqual(tree_of(read(text)), tree_of(glass))
        self.assertEqual(shown(read(text)), text)
        self.assertTrue(is_written(text))

    def test_leaves(self):
        for name in ("a", "abcdefgh", "join", "rename", "z"):
            self.check(Leaf(name), name)

    def test_each_step(self):
        for words, step in STEPS.items():
            self.check(Over(Leaf("a"), step), f"(a {words})")
            self.assertEqual(vars(read(f"(a {words})").step), vars(step))
            self.assertEqual(read(f"(a {words})").step.__class__, step.__class__)

    def test_each_pair(self):
        self.check(Both(Leaf("a"), Leaf("b"), Join()), "[join a b]")
        self.check(Both(Leaf("a"), Leaf("b"), Gather("in")), "[gather a b in]")
        self.check(Both(Over(Leaf("a"), Rename("x", "y")), Leaf("b"), Join()), "[join (a rename x y) b]")
        self.check(Both(Leaf("join"), Leaf("join"), Gather("join")), "[gather join join join]")
        self.assertEqual(read("[gather a b in]").pair.name, "in")

    def test_deep_brackets(self):
        glass, text = Leaf("a"), "a"
        for unused in range(5):
            glass = Both(Over(Over(glass, Drop("w", "")), Rename("x", "y")), Over(Leaf("b"), Nest(1, "i")), Gather("g"))
            text = f"[gather (({text} drop w .) rename x y) (b nest 1 i) g]"
            glass, text = Over(glass, Unnest("g")), f"({text} unnest g)"
        self.check(glass, text)

    def test_by_chance(self):
        chance = random.Random(101)
        for unused in range(300):
            forms = some_forms(chance, "abcd")
            glass = some_glass(chance, forms, "abcd", chance.choice((2, 5, 12)))
            plain = any([not part.words() for part in parts_of(glass)])
            if plain:
                self.assertEqual(refusal(shown, glass), NoText)
            else:
                self.check(glass, shown(glass))

    def test_a_plain_step_is_refused(self):
        for glass in (Over(Leaf("a"), Step()), Over(Over(Leaf("a"), Step()), Rename("x", "y")),
                      Over(Over(Leaf("a"), Rename("x", "y")), Step()),
                      Both(Over(Leaf("a"), Step()), Leaf("b"), Join()), Both(Leaf("a"), Over(Leaf("b"), Step()), Join()),
                      Over(Both(Leaf("c"), Over(Both(Leaf("a"), Over(Leaf("b"), Step()), Join()), Nest(1, "i")), Join()),
                           Unnest("i"))):
            self.assertEqual(refusal(shown, glass), NoText)


class RefusedTest(unittest.TestCase):
    def check(self, *texts):
        for text in texts:
            with self.subTest(text=text):
                self.assertEqual(refusal(read, text), NoText)
                self.assertFalse(is_written(text))

    def test_names(self):
        self.check("", "A", "abcdefghi", "a1", "a_b", "a-b", ".a", "1", "-", "\n", "a\n", "\na", "a\nb", "@", "~")
        for name in ("A", "abcdefghi", "a1", ".a", "1", "-1", "(", "", "()"):
            self.check(f"({name} rename x y)", f"[join {name} b]", f"[join a {name}]", f"[gather {name} b in]")
        for name in ("A", "abcdefghi", "a1", ".a", "1", "-1", "(", "", "()", "(b rename x y)"):
            self.check(f"(a rename {name} y)", f"(a rename x {name})", f"(a part {name} 2 q r)",
                       f"(a part n 2 {name} r)", f"(a part n 2 q {name})", f"(a fuse {name} r 2 n)", f"(a unnest {name})",
                       f"(a fuse q {name} 2 n)", f"(a fuse q r 2 {name})", f"(a drop {name} 1)", f"(a nest 1 {name})",
                       f"(a sieve {name} 1 2)", f"(a keep {name} .a)", f"[gather a b {name}]")

    def test_numbers(self):
        self.assertEqual(read(f"(a nest {GREAT} i)").step.many, GREAT)
        self.assertEqual(read(f"(a nest -{GREAT} i)").step.many, -GREAT)
        for number in ("", "00", "01", "-0", "-01", "+1", "--1", "-", "1-", "1.0", "1_0", "1e3", "0x1", "a", ".a", "'1'",
                       str(GREAT + 1), str(-GREAT - 1), "0" * 60, "0" * 61):
            self.check(f"(a part n {number} q r)", f"(a fuse q r {number} n)", f"(a nest {number} i)",
                       f"(a sieve n {number} {GREAT})", f"(a sieve n -{GREAT} {number})")
            if number != ".a":
                self.check(f"(a drop n {number})")

    def test_low_and_high(self):
        self.check("(a sieve n 2 1)", "(a sieve n -1 -2)", "(a sieve n 1 -1)", f"(a sieve n {GREAT} 9)", "(a sieve n 10 9)")

    def test_words(self):
        self.check("(a keep w)", "(a keep)", "(a keep w a)", "(a keep w .a b)", "(a keep w .A)", "(a keep w .abcdefghi)",
                   "(a keep w ..a)", "(a keep w .a .a)", "(a keep w .b .a)", "(a keep w .a .)", "(a keep w . .)",
                   "(a keep w .a .b .b)", "(a keep w .a. .b)", "(a keep w .1)", "(a keep w 1 2)", "(a keep w .a .c .b)",
                   "(a drop w ..)", "(a drop w .abcdefghi)", "(a drop w .a1)", "(a drop w abc)", "(a drop w .A)",
                   "(a keep w ." + " .".join(TWELVE) + " .m)")

    def test_too_few_and_too_many(self):
        for words in STEPS:
            parts = words.split(" ")
            for place in range(len(parts)):
                fewer = " ".join(parts[:place] + parts[place + 1:])
                if parts[0] != "keep" or len(parts) == 3 and place:
                    self.check(f"(a {fewer})")
            if parts[0] != "keep":
                self.check(f"(a {words} x)", f"(a {words} 1)", f"(a {words} .z)", f"(a b {words})")
        self.check("[join a]", "[join]", "[join a b c]", "[gather a b]", "[gather a]", "[gather a b c d]", "[gather]", "[]",
                   "()", "(a)", "( )", "[ ]", "[a b]", "[a b join]", "(rename x y)", "(a b rename x y)")

    def test_words_that_are_none(self):
        self.check("(a join)", "(a join b)", "[rename a b]", "(a gather b)", "[nest a b 1]", "(a Rename x y)", "(a step)",
                   "(a renam x y)", "(a keeps w .a)", "[joins a b]", "(join a b)", "[a rename x y]", "(a sieve w .a .b)",
                   "(a keep n 1 2)", "(a .rename x y)")

    def test_blanks(self):
        for text in ("(a rename x y)", "[join (a rename x y) b]", "((a drop w .) keep w . .b)", "[gather a (b nest 1 i) c]"):
            for place, sign in enumerate(text):
                if sign in " ()[]":
                    self.check(text[:place] + "  " + text[place + 1:], text[:place] + " " + sign + " " + text[place + 1:])
                if sign == " ":
                    self.check(text[:place] + "\n" + text[place + 1:], text[:place] + "\t" + text[place + 1:])
                    self.check(text[:place] + text[place + 1:])
            self.check(" " + text, text + " ", text + "\n", "\n" + text)
        self.check(" a", "a ", " ", "( a rename x y)", "(a rename x y )", "[ join a b]", "[join a b ]")

    def test_brackets(self):
        self.check("(a rename x y", "a rename x y)", "(a rename x y]", "[a rename x y)", "(a rename x y))", "((a rename x y)",
                   "[join a b", "join a b]", "[join a b)", "(join a b]", "[join a b]]", "[[join a b]", "(a)", "((a))", "[a]",
                   "{a rename x y}", "(a rename x y)(b rename x y)", "(a rename x y) b", "a b", "(", ")", "[", "]", ")(",
                   "((a rename x y)rename y z)", "[join(a rename x y) b]", "[join (a rename x y)b]", "[join [join a b]c]")

    def test_texts_spoiled_at_every_place(self):
        texts = ["(a part n -10 q r)", "((a drop w .) keep w . .bc)", "[gather (a sieve n -2 10) b in]", "(a nest 10 i)"]
        for text in texts:
            for place in range(len(text) + 1):
                for sign in ("", " ", "(", ")", "[", "]", ".", "-", "0", "1", "a", "z", "A", "\n"):
                    self.same(text[:place] + sign + text[place:])
                    self.same(text[:place] + sign + text[place + 1:])

    def same(self, text):
        """Read just where the own reckoning has it written."""
        due = is_written(text)
        self.assertEqual(refusal(read, text), None if due else NoText, text)
        if due:
            self.assertEqual(shown(read(text)), text)

    def test_texts_spoiled_by_chance(self):
        chance = random.Random(102)
        alphabet = " ()[].-019abz"
        pieces = ["rename", "join", "gather", "keep", "sieve", "drop", " a", " .a", " .", " 1", " -1", "(a ", ")", "[", "]"]
        seeds = [f"(a {words})" for words in STEPS if len(words) < 40] + ["[join (a drop n 1) [gather b c in]]"]
        for unused in range(3000):
            text = chance.choice(seeds)
            for unused_too in range(chance.randint(1, 3)):
                place, end = sorted([chance.randint(0, len(text)), chance.randint(0, len(text))])
                end = min(end, place + chance.randint(0, 3))
                text = text[:place] + chance.choice((chance.choice(alphabet), chance.choice(pieces), "")) + text[end:]
            self.same(text)


class WhateverTheyAreTest(unittest.TestCase):
    def test_what_forms_would_refuse_is_read(self):
        for text in ("(a part n 1 q q)", "(a nest -5 i)", "(a nest 0 i)", "(a rename x x)", "(a fuse q q 0 q)", "[join a a]",
                     "(a part n 1000000001 q r)", "(a drop n 5)", "((a drop n 5) drop n 5)", "[gather a a a]"):
            self.assertEqual(shown(read(text)), text)


if __name__ == "__main__":
    unittest.main()
