"""[87]: claims about works."""

import random
import unittest

from stoodthen.deskclaims import claim_holds, claim_line, is_claim, read_claim
from stoodthen.errors import InvalidText
from stoodthen.nestkinds import nest_held
from stoodthen.nestrows import row_at
from tests import plaindesk
from tests.samples import HUGE, ODD, WIDE, WIDE_NESTS, Promises
from tests.test_reasons import LOGS, WORKS

AT = ("at", "cd", 2)
BOTH = ("both", ("row", "ab", (1, 0)), ("not", AT))


def within(word, many, claim=AT):
    """A claim within so many of the word."""
    for _ in range(many):
        claim = (word, claim) if word == "not" else (word, AT, claim)
    return claim


def words(text):
    """The line with the first, the next .. of its fields alone, and how many these are."""
    fields = text.split(" ")
    return [(many, " ".join(fields[:many])) for many in range(1, len(fields))]


class Claims(Promises):

    def test_example(self):
        self.gives("both row ab 1 0 not at cd 2", claim_line, BOTH)
        self.gives(BOTH, read_claim, "both row ab 1 0 not at cd 2")

    def test_claims(self):
        for claim in (AT, BOTH, ("at", "a", 0), ("row", "a", (0,)), ("row", "a", (10 ** 60,) * 200),
                      ("room", "abcdefghijkl", 10 ** 60),
                      ("either", AT, BOTH)):
            self.gives(True, is_claim, claim)
        for thing in (*ODD, ("at", "a", -1), ("at", "a", True), ("at", "A", 0), ("at", "a"), ("at", "a", 0, 0),
                      ("at", "a", (0,)),
                      ("room", "a", None), ("room", "a", (0,)), ("row", "a", ()), ("row", "a", 0), ("row", "a", [0]),
                      ("row", "a", (0, True)),
                      ("row", "a", (-1,)), ("row", "a", ((0,),)), ("row", "", (0,)), ("not",), ("not", AT, AT),
                      ("both", AT), ("either", AT),
                      ("both", AT, AT, AT), ("not", None), ("not", ("not", ("at", "a"))), ("both", AT, ["at", "a", 0]),
                      ("nor", AT),
                      ["not", AT], ("not", list(AT)), ("at", ("a",), 0), (("at",), "a", 0), ("both", "a", 0),
                      ("not", "a"), AT[:2]):
            self.gives(False, is_claim, thing)

    def test_four_words_within_one_another(self):
        for word in ("not", "both", "either"):
            for many in range(7):
                self.gives(many <= 4, is_claim, within(word, many))
                self.gives(many <= 4, is_claim, ("either", within(word, many - 1), AT) if many else AT)
        mixed = ("not", ("both", AT, ("either", ("not", AT), AT)))
        self.gives(True, is_claim, mixed)
        self.gives(False, is_claim, ("not", mixed))
        self.gives(False, is_claim, ("both", AT, mixed))
        wide = AT
        for _ in range(4):
            wide = ("both", wide, wide)
        self.gives(True, is_claim, wide)
        self.gives(False, is_claim, ("both", AT, wide))
        deep = AT
        for _ in range(25):
            deep = ("not", deep)
        self.gives(False, is_claim, deep)


class Holds(Promises):

    def test_drawn_claims(self):
        found = {True: 0, False: 0}
        for seed, (_, desk) in enumerate(LOGS):
            rng = random.Random(870 + seed)
            for _ in range(30):
                claim = plaindesk.random_claim(rng, desk, rng.randrange(5))
                self.gives(True, is_claim, claim)
                found[desk.holds(claim)] += 1
                self.gives(desk.holds(claim), claim_holds, desk.works(), claim)
        self.assertGreater(min(found.values()), 100)

    def test_each_word(self):
        for claim, holds in ((("at", "ab", 2), True), (("at", "ab", 1), False), (("at", "cd", 1), True),
                             (("at", "cd", 2), False),
                             (("row", "ab", (1, 1)), True), (("row", "ab", (1, 0)), False),
                             (("row", "cd", (1, 0, 0)), True),
                             (("row", "cd", (1, 0)), False), (("row", "cd", (1, 0, 0, 0)), False),
                             (("room", "ab", 0), True),
                             (("room", "ab", 1), True), (("room", "ab", 2), False), (("room", "cd", 0), False),
                             (("at", "x", 0), False),
                             (("row", "x", (0,)), False), (("room", "x", 0), False), (("not", ("room", "x", 0)), True)):
            self.gives(holds, claim_holds, WORKS, claim)
            self.gives(not holds, claim_holds, WORKS, ("not", claim))
        yes, no = ("at", "ab", 2), ("at", "ab", 0)
        for one, other in ((yes, yes), (yes, no), (no, yes), (no, no)):
            self.gives(one == yes and other == yes, claim_holds, WORKS, ("both", one, other))
            self.gives(one == yes or other == yes, claim_holds, WORKS, ("either", one, other))
        self.gives(False, claim_holds, (), yes)

    def test_wide(self):
        for nest in WIDE_NESTS:
            last = nest_held(nest) - 1
            works = (("a", ("line", nest, last - 1, 0)),)
            self.gives(True, claim_holds, works, ("both", ("at", "a", last - 1), ("room", "a", 1)))
            self.gives(False, claim_holds, works, ("room", "a", 2))
            self.gives(True, claim_holds, works, ("row", "a", row_at(nest, last - 1)))
        self.gives(True, claim_holds, (("a", ("line", (HUGE, ()), 0, 0)),), ("room", "a", 10 ** 60 - 1))
        self.gives(False, claim_holds, (("a", ("line", (WIDE, ()), 1, 0)),), ("room", "a", 2 ** 199 - 1))

    def test_refused(self):
        for wrong in (None, True, 0, "", [], list(WORKS), WORKS[::-1], (("ab", None),)):
            self.refuses("works", claim_holds, wrong, AT)
            self.refuses("works", claim_holds, wrong, None)
        for wrong in (*ODD, within("not", 5), ("at", "a"), ["at", "a", 0]):
            self.refuses("claim", claim_holds, WORKS, wrong)
            self.refuses("claim", claim_line, wrong)


class Lines(Promises):

    def test_read_as_written(self):
        for seed, (_, desk) in enumerate(LOGS):
            rng = random.Random(880 + seed)
            for _ in range(12):
                claim = plaindesk.random_claim(rng, desk, 4)
                self.gives(claim, read_claim, claim_line(claim))
        for word in ("not", "both", "either"):
            self.gives(within(word, 4), read_claim, claim_line(within(word, 4)))
        claim = ("row", "a", (10 ** 60, *(0,) * 198))
        self.gives(claim, read_claim, claim_line(claim))

    def test_written(self):
        self.gives("at a 0", claim_line, ("at", "a", 0))
        self.gives("room ab 12", claim_line, ("room", "ab", 12))
        self.gives("either not at cd 2 both at cd 2 row a 0 7", claim_line,
                   ("either", ("not", AT), ("both", AT, ("row", "a", (0, 7)))))

    def test_texts_that_end_too_soon(self):
        for claim in (AT, BOTH, ("row", "a", (1,)), ("either", BOTH, ("room", "ab", 3)), within("not", 4)):
            text = claim_line(claim)
            for many, part in words(text):
                if part != "both row ab 1":
                    self.fails(InvalidText, (0, many), read_claim, part)
        self.fails(InvalidText, (0, 4), read_claim, "both row ab 1")

    def test_fields_that_cannot_stand(self):
        for field, text in ((0, ""), (0, " "), (0, "x"), (0, "At a 0"), (0, " at a 0"), (1, "at  a 0"), (1, "at"),
                            (1, "at A 0"), (1, "at 0 0"),
                            (1, "at abcdefghijklm 0"), (2, "at a"), (2, "at a b"), (2, "at a 00"), (2, "at a 01"),
                            (2, "at a -1"), (2, "at a "),
                            (3, "at a 0 "), (3, "at a 0 0"), (3, "at a 0 at"), (3, "room a 0 x"), (2, "row a"),
                            (2, "row a x"), (2, "row a "),
                            (3, "row a 0 "), (4, "row a 0 1 x"), (3, "row a 0 01"), (3, "row a 0 row"), (1, "not"),
                            (1, "not x"), (1, "not 0"),
                            (4, "not at a 0 at a 0"), (4, "not at a 0 0"), (1, "both"), (1, "both 0"),
                            (4, "both at a 0"), (4, "both at a 0 x"),
                            (5, "both row a 0 1"), (5, "both row a 0 1 x"), (7, "both at a 0 at b 1 at"),
                            (0, "(at a 0)"), (2, "at a 0;"), (2, "at a 0,"), (1, "at a; 0"), (0, "row\na 0"),
                            (2, "at a +1"), (2, "at a 1\n")):
            self.fails(InvalidText, (0, field), read_claim, text)

    def test_a_fifth_word_within_four(self):
        for words_ in ("not not not not", "not both at a 0 not not", "either at a 0 both at a 0 not not"):
            fields = len(words_.split(" "))
            read_claim(words_ + " at a 0")
            for word in ("not", "both", "either"):
                self.fails(InvalidText, (0, fields), read_claim, words_ + " " + word + " at a 0")
        for word in ("not", "both", "either"):
            self.fails(InvalidText, (0, 4), read_claim, "both both either both " + word + " at a 0")
            self.fails(InvalidText, (0, 4), read_claim, "either both not either " + word + " at a 0")
        self.gives(("both", within("not", 3), within("not", 3)), read_claim,
                   "both not not not at cd 2 not not not at cd 2")
        self.fails(InvalidText, (0, 10), read_claim, "both not not not at cd 2 not not not not at cd 2")

    def test_refused(self):
        for wrong in (None, True, 0, (), [], AT, ["at a 0"], 10 ** 69):
            self.refuses("text", read_claim, wrong)


if __name__ == "__main__":
    unittest.main()
