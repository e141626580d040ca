"""Tokens, the grammar, and the faults with their places."""

import unittest

from helper import area, being, fault, form, last, open_level, pairs

NO_FAULT = (0, 0)
GROUNDS = ("wall", "floor", "water", "ice", "fire")
SIMPLE = ("self", "target", "line", "bolt", "all", "beings", "foes", "friends") + GROUNDS
SIZED = ("ball", "ring", "burst")


def is_area(words):
    """Whether a text has no fault as an area."""
    return last(open_level(2, 2), being(0, 0), area(1, 0, 0, words))[0] == 0


class Tokens(unittest.TestCase):
    def test_every_blank(self):
        for blank in ("\t", "\n", "\r", " ", " \t\n\r "):
            self.assertEqual(form(blank.join(["", "hurt", "1", "on", "all", ""])), "hurt 1 on all")
            self.assertEqual(form(blank.join(["blink", "on", "(", "all", ")", ";", "blink", "on", "ice"])),
                             "blink on all; blink on ice")

    def test_every_other_byte_is_no_blank(self):
        words = b"blink on all"
        for byte in range(256):
            expected = (1, 12)
            if byte in (9, 10, 13, 32):
                expected = NO_FAULT
            elif bytes([byte]).isalpha() and bytes([byte]).islower() and byte < 128:
                expected = (2, 9)
            elif chr(byte) in "0123456789()":
                expected = (2, 12)
            elif chr(byte) in ";|&":
                expected = (2, 13)
            self.assertEqual(fault(words + bytes([byte])), expected, byte)

    def test_every_first_byte(self):
        for byte in range(256):
            expected = (1, 0)
            if byte in (9, 10, 13, 32):
                expected = NO_FAULT
            elif chr(byte) in "abcdefghijklmnopqrstuvwxyz0123456789;|&()":
                expected = (2, 0)
            self.assertEqual(fault(bytes([byte]) + b"blink on all"), expected, byte)

    def test_tokens_without_blanks_between(self):
        self.assertEqual(form("hurt2on(all)|ice&(fire);blink on(all)"), "hurt 2 on all | ice & fire; blink on all")
        self.assertEqual(form("hurt2on ball0when ring9;heal99on burst5"), "hurt 2 on ball 0 when ring 9; heal 99 on burst 5")
        self.assertEqual(form("hurt\n2on\tball\r3|ball4"), "hurt 2 on ball 3 | ball 4")

    def test_words_are_the_longest(self):
        self.assertEqual(fault("hurton all"), (2, 0))
        self.assertEqual(fault("hurt 2 onall"), (2, 7))
        self.assertEqual(fault("hurt 2 on notall"), (2, 10))
        self.assertEqual(fault("hurt 2 on allwhen all"), (2, 10))
        self.assertEqual(fault("hurt 2 on al"), (2, 10))
        self.assertEqual(fault("hur 2 on all"), (2, 0))
        self.assertEqual(fault("hurt 2 on a ll"), (2, 10))

    def test_zeros_in_front(self):
        self.assertEqual(form("hurt 01 on ball 00"), "hurt 1 on ball 0")
        self.assertEqual(form("hurt 099 on ball 009"), "hurt 99 on ball 9")
        self.assertEqual(form("heal 010 on ring 000"), "heal 10 on ring 0")
        self.assertEqual(form("push 005 on burst 001"), "push 5 on burst 1")
        self.assertEqual(fault("hurt 000 on all"), (3, 5))

    def test_numbers_of_three_and_of_four_digits(self):
        self.assertEqual(fault("hurt 001 on all"), NO_FAULT)
        self.assertEqual(fault("hurt 0001 on all"), (1, 5))
        self.assertEqual(fault("hurt 999 on all"), (3, 5))
        self.assertEqual(fault("hurt 1000 on all"), (1, 5))
        self.assertEqual(fault("hurt 1 on ball 0009"), (1, 15))
        self.assertEqual(fault("hurt 1 on all 0009"), (1, 14))
        self.assertEqual(fault("0000"), (1, 0))
        self.assertEqual(fault("000"), (2, 0))
        self.assertEqual(fault("hurt 12345678901234567890 on all"), (1, 5))

    def test_numbers_are_the_longest(self):
        self.assertEqual(fault("hurt 1 2 on all"), (2, 7))
        self.assertEqual(fault("hurt 12on all"), NO_FAULT)
        self.assertEqual(form("hurt 12on all"), "hurt 12 on all")

    def test_the_word_end_is_not_the_end(self):
        self.assertEqual(fault("blink on all end"), (2, 13))
        self.assertFalse(is_area("all end"))

    def test_signs_apart_from_one_another(self):
        self.assertEqual(fault("blink on ((all)|(ice))&(fire)"), NO_FAULT)
        self.assertEqual(fault("blink on all||ice"), (2, 13))
        self.assertEqual(fault("blink on all&&ice"), (2, 13))


class Grammar(unittest.TestCase):
    def test_every_act(self):
        for spell in ("hurt 7 on all", "heal 7 on all", "push 3 on all", "pull 3 on all", "blink on all"):
            self.assertEqual(form(spell), spell)
        for ground in GROUNDS:
            self.assertEqual(form("set " + ground + " on all"), "set " + ground + " on all")

    def test_every_simple_area(self):
        for word in SIMPLE:
            self.assertEqual(form("blink on " + word), "blink on " + word)
            self.assertTrue(is_area(word))
            self.assertFalse(is_area(word + " 1"))
        for word in SIZED:
            for size in range(10):
                self.assertEqual(form("blink on %s %d" % (word, size)), "blink on %s %d" % (word, size))
            self.assertFalse(is_area(word))

    def test_ranges_of_numbers(self):
        for act, most in (("hurt", 99), ("heal", 99), ("push", 5), ("pull", 5)):
            self.assertEqual(fault(act + " 1 on all"), NO_FAULT)
            self.assertEqual(fault("%s %d on all" % (act, most)), NO_FAULT)
            self.assertEqual(fault(act + " 0 on all"), (3, 5))
            self.assertEqual(fault("%s %d on all" % (act, most + 1)), (3, 5))
            self.assertEqual(fault(act + " 999 on all"), (3, 5))
        for word in SIZED:
            self.assertEqual(fault("blink on %s 0" % word), NO_FAULT)
            self.assertEqual(fault("blink on %s 9" % word), NO_FAULT)
            self.assertEqual(fault("blink on %s 10" % word), (3, 10 + len(word)))
            self.assertEqual(fault("blink on all when %s 010" % word), (3, 19 + len(word)))

    def test_steps(self):
        self.assertEqual(fault("blink on all;blink on all when ice;set ice on ice when ice"), NO_FAULT)
        self.assertEqual(fault(";".join(["blink on ice"] * 23)), NO_FAULT)
        self.assertEqual(fault("blink on all when ice when ice"), (2, 22))
        self.assertEqual(fault("blink when all on ice"), (2, 6))


class Faults(unittest.TestCase):
    def assert_faults(self, faults):
        for words, expected in faults:
            self.assertEqual(fault(words), expected, words)

    def test_wrong_tokens(self):
        self.assert_faults((
            ("@", (1, 0)), ("  @", (1, 2)), ("@blink on all", (1, 0)), ("Blink on all", (1, 0)),
            ("blink @on all", (1, 6)), ("blink on @all", (1, 9)), ("blink on all @", (1, 13)), ("blink on all@", (1, 12)),
            ("hurt @ on all", (1, 5)), ("hurt -1 on all", (1, 5)), ("hurt 1.5 on all", (1, 6)), ("set @", (1, 4)),
            ("blink on ball @", (1, 14)), ("blink on not @", (1, 13)), ("blink on grow @", (1, 14)),
            ("blink on (@", (1, 10)), ("blink on (all @", (1, 14)), ("blink on (all) @", (1, 15)),
            ("blink on all | @", (1, 15)), ("blink on all & @", (1, 15)), ("blink on all when @", (1, 18)),
            ("blink on all when ice @", (1, 22)), ("blink on all; @", (1, 14)), ("blink on all;@", (1, 13)),
            ("blink on all, blink on all", (1, 12)), ("blink on all \x00", (1, 13)), (b"blink on \xff", (1, 9)),
            ("blink on all\x0b", (1, 12)), ("blink on all\x0c", (1, 12)),
        ))

    def test_misplaced_tokens(self):
        self.assert_faults((
            ("all", (2, 0)), ("on", (2, 0)), ("; blink on all", (2, 0)), ("1", (2, 0)), ("(", (2, 0)), ("not", (2, 0)),
            ("hurt on all", (2, 5)), ("hurt all", (2, 5)), ("hurt 1 all", (2, 7)), ("hurt 1 2", (2, 7)), ("push fire on all", (2, 5)),
            ("set 1 on all", (2, 4)), ("set on all", (2, 4)), ("set all on all", (2, 4)), ("set foes on all", (2, 4)),
            ("blink 1 on all", (2, 6)), ("blink fire on all", (2, 6)), ("blink all", (2, 6)),
            ("blink on", (2, 8)), ("blink on on", (2, 9)), ("blink on 1", (2, 9)), ("blink on )", (2, 9)),
            ("blink on when all", (2, 9)), ("blink on ;", (2, 9)), ("blink on | all", (2, 9)), ("blink on & all", (2, 9)),
            ("blink on ball all", (2, 14)), ("blink on all 1", (2, 13)), ("blink on all all", (2, 13)),
            ("blink on all not ice", (2, 13)), ("blink on all grow ice", (2, 13)), ("blink on all (ice)", (2, 13)),
            ("blink on all)", (2, 12)), ("blink on ()", (2, 10)), ("blink on (all;", (2, 13)), ("blink on (all when ice)", (2, 14)),
            ("blink on (all))", (2, 14)), ("blink on not )", (2, 13)), ("blink on not not", (2, 16)),
            ("blink on all when", (2, 17)), ("blink on all when 1", (2, 18)), ("blink on all when all)", (2, 21)),
            ("blink on all;;", (2, 13)), ("blink on all; on", (2, 14)), ("blink on all on all", (2, 13)),
            ("blink on hurt", (2, 9)), ("hurt hurt 1 on all", (2, 5)), ("fly on all", (2, 0)),
        ))

    def test_the_end(self):
        """The end's place is the text's length, whatever blanks stand before it."""
        self.assert_faults((
            ("", (2, 0)), (" ", (2, 1)), ("\t\n\r ", (2, 4)), (" " * 300, (2, 300)),
            ("blink", (2, 5)), ("blink  ", (2, 7)), ("blink on", (2, 8)), ("blink on ", (2, 9)),
            ("hurt", (2, 4)), ("hurt 1", (2, 6)), ("set", (2, 3)), ("set ice", (2, 7)),
            ("blink on ball", (2, 13)), ("blink on ball ", (2, 14)), ("blink on not", (2, 12)), ("blink on grow", (2, 13)),
            ("blink on (", (2, 10)), ("blink on (all", (2, 13)), ("blink on (all  ", (2, 15)), ("blink on all |", (2, 14)),
            ("blink on all & ", (2, 15)), ("blink on all when", (2, 17)), ("blink on all;", (2, 13)), ("blink on all; ", (2, 14)),
        ))

    def test_numbers_out_of_range(self):
        self.assert_faults((
            ("hurt 0", (3, 5)), ("hurt 100", (3, 5)), ("  hurt  100", (3, 8)), ("push 6", (3, 5)), ("pull 0", (3, 5)),
            ("heal 100 on all", (3, 5)), ("blink on ball 10", (3, 14)), ("blink on ring 99", (3, 14)), ("blink on burst 10", (3, 15)),
            ("blink on (all | ball 10)", (3, 21)), ("blink on all when ball 10", (3, 23)), ("blink on all; hurt 0", (3, 19)),
        ))

    def test_the_first_fault_is_told(self):
        self.assert_faults((
            ("push 9 @", (3, 5)), ("push 9 on @", (3, 5)), ("push on @", (2, 5)), ("all @", (2, 0)), ("@ push 9", (1, 0)),
            ("hurt 100 on ball 10", (3, 5)), ("blink on ball 10 @", (3, 14)), ("blink on all all @ ball 10", (2, 13)),
            ("blink on all @ ball 10", (1, 13)), ("hurt 1 @ ball 10", (1, 7)), ("blink on " + "not " * 13 + "@", (6, 57)),
            ("blink on " + "not " * 12 + "@", (1, 57)), ("push 9 1234", (3, 5)), ("blink blink 0000", (2, 6)),
        ))

    def test_no_token_is_looked_at_behind_the_fault(self):
        for words, expected in (("push 9", (3, 5)), ("push on", (2, 5)), ("blink on " + "(" * 13, (6, 21)), ("blink @", (1, 6))):
            for behind in (" @", " 0000", " push 9", " on", " \xff", " " * 50):
                self.assertEqual(fault(words + behind), expected, words + behind)


class Levels(unittest.TestCase):
    def test_twelve_and_thirteen(self):
        for opener, closer in (("not ", ""), ("grow ", ""), ("(", ")")):
            for start in ("blink on ", "blink on all when ", "blink on all; blink on ", "blink on (all) & not ice | "):
                twelve = start + opener * 12
                self.assertEqual(fault(twelve + "all" + closer * 12), NO_FAULT)
                self.assertEqual(fault(twelve + opener + "all" + closer * 13), (6, len(twelve)))
                self.assertEqual(fault(twelve + opener), (6, len(twelve)))
                self.assertEqual(fault(twelve), (2, len(twelve)))

    def test_each_opener_as_the_thirteenth(self):
        for opener in ("not", "grow", "("):
            for twelve in ("not " * 12, "grow " * 12, "( " * 12, "not ( grow " * 4, "(not " * 6, "( grow " * 6):
                self.assertEqual(fault("blink on " + twelve + opener), (6, 9 + len(twelve)))
                self.assertEqual(fault("blink on all when " + twelve + opener), (6, 18 + len(twelve)))
                self.assertFalse(is_area(twelve + opener + " all" + ")" * 20))

    def test_eleven_and_two(self):
        eleven = "blink on " + "(" * 11
        self.assertEqual(fault(eleven + "not all" + ")" * 11), NO_FAULT)
        self.assertEqual(fault(eleven + "not not all" + ")" * 11), (6, 24))
        self.assertEqual(fault(eleven + "not (all)" + ")" * 11), (6, 24))
        self.assertEqual(fault(eleven + "grow not all"), (6, 25))

    def test_levels_are_closed_again(self):
        deep = "(" * 12 + "all" + ")" * 12
        nots = "not " * 12 + "all"
        self.assertEqual(fault("blink on " + deep + "|" + deep + "&" + nots + "|" + nots), NO_FAULT)
        self.assertEqual(fault("blink on " + nots + " when " + deep + ";blink on " + deep + " when " + nots), NO_FAULT)
        inner = "(" * 11 + "not all & not all | grow all & (all) | not ice" + ")" * 11
        self.assertEqual(fault("blink on " + inner), NO_FAULT)
        self.assertEqual(fault("blink on " + "(" * 11 + "not all & grow (all)"), (6, 35))

    def test_a_level_of_not_ends_with_its_unit(self):
        self.assertEqual(fault("blink on not " + "(" * 11 + "all" + ")" * 11 + "&" + "(" * 12 + "all" + ")" * 12), NO_FAULT)
        self.assertEqual(fault("blink on not (all | " + "(" * 10 + "all" + ")" * 11), NO_FAULT)
        self.assertEqual(fault("blink on not (all | " + "(" * 11 + "all" + ")" * 12), (6, 30))

    def test_an_opener_that_cannot_stand_is_misplaced(self):
        for opener in ("not", "grow", "("):
            self.assertEqual(fault("blink on " + "not " * 12 + "all " + opener), (2, 61))

    def test_areas_by_themselves(self):
        self.assertTrue(is_area("(" * 12 + "all" + ")" * 12))
        self.assertFalse(is_area("(" * 13 + "all" + ")" * 13))


class Chains(unittest.TestCase):
    def cells(self, words):
        stage = [open_level(5, 5), being(0, 0)]
        return pairs(last(*stage, area(1, 2, 2, words)))

    def test_and_binds_more_tightly_than_or(self):
        self.assertEqual(self.cells("self | target & ice"), [(0, 0)])
        self.assertEqual(self.cells("(self | target) & ice"), [])
        self.assertEqual(self.cells("ice & target | self"), [(0, 0)])
        self.assertEqual(self.cells("ice & (target | self)"), [])

    def test_not_and_grow_take_one_unit(self):
        self.assertEqual(self.cells("not all | self"), [(0, 0)])
        self.assertEqual(self.cells("not (all | self)"), [])
        self.assertEqual(self.cells("grow self & self"), [(0, 0)])
        self.assertEqual(self.cells("grow (self & self)"), [(0, 0), (1, 0), (0, 1), (1, 1)])
        self.assertEqual(self.cells("not not self"), [(0, 0)])

    def test_chains_are_joined_from_the_left(self):
        self.assertEqual(form("blink on (ice | fire) | all"), "blink on ice | fire | all")
        self.assertEqual(form("blink on (ice & fire) & all"), "blink on ice & fire & all")
        self.assertEqual(form("blink on ice | (fire | all)"), "blink on ice | (fire | all)")
        self.assertEqual(form("blink on ice & (fire & all)"), "blink on ice & (fire & all)")

    def test_chains_as_long_as_a_text(self):
        for sign in "|&":
            chain = sign.join(["all"] * 75)
            self.assertEqual(len(chain), 299)
            self.assertEqual(len(self.cells(chain)), 25)
            spell = "blink on " + sign.join(["ice"] * 72)
            self.assertEqual(form(spell), "blink on " + (" " + sign + " ").join(["ice"] * 72))


if __name__ == "__main__":
    unittest.main()
