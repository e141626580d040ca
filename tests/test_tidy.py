"""Spells made simpler."""

import unittest

from helper import form, last, open_level, run, tidied, tidy

SIMPLE = ("self", "target", "line", "bolt", "ball 0", "ring 3", "burst 9", "wall", "floor", "water", "ice", "fire", "beings", "foes", "friends")
# Areas that are none of "all", and no two the same.
OTHERS = (
    "fire", "ball 2", "not self", "grow line", "fire | ice", "fire & ice", "fire | ice | water", "fire & ice & water", "fire & (ice | water)",
    "not (fire | ice)", "fire | ice & water", "not all", "grow not all", "ring 0", "ring 1", "fire | (ice | water)",
)


class TidyCase(unittest.TestCase):
    def assert_area(self, words, expected):
        """What the area becomes, behind "on" and behind "when"."""
        self.assertEqual(tidied("blink on " + words), "blink on " + expected, words)
        self.assertEqual(tidied("hurt 1 on self when " + words), "hurt 1 on self when " + expected, words)

    def assert_areas(self, areas):
        for words, expected in areas:
            self.assert_area(words, expected)

    def assert_as_it_is(self, areas):
        for words in areas:
            self.assert_area(words, words)


class Units(TidyCase):
    def test_not_not(self):
        for words in OTHERS + SIMPLE + ("all",):
            simpler = words[4:].strip("()") if words.startswith("not ") else "not " + self.unit(words)
            self.assert_area("not (%s)" % words, simpler)
            if not words.startswith("not "):
                self.assert_area("not (not (%s))" % words, words)
                self.assert_area("not not (%s)" % words, words)

    def unit(self, words):
        return "(%s)" % words if "|" in words or "&" in words else words

    def test_many_nots(self):
        for count in range(13):
            self.assert_area("not " * count + "fire", "not fire" if count % 2 else "fire")
            self.assert_area("not " * count + "all", "not all" if count % 2 else "all")

    def test_grow_all(self):
        self.assert_areas((
            ("grow all", "all"), ("grow (all)", "all"), ("grow grow all", "all"), ("grow " * 12 + "all", "all"),
            ("grow grow grow (grow all)", "all"),
        ))

    def test_what_stays_behind_not_and_grow(self):
        self.assert_as_it_is((
            "not all", "grow not all", "not grow not all", "grow self", "grow grow self", "not grow self", "grow not self",
            "grow not grow not self", "not (fire | ice)", "grow (fire & ice)", "grow beings", "grow not fire",
        ))

    def test_simple_areas_stay(self):
        self.assert_as_it_is(SIMPLE + ("all",))

    def test_nots_with_something_between(self):
        self.assert_as_it_is(("not grow not fire", "not (not fire & ice)", "not (not fire | ice)", "not (ice & not fire)"))


class And(TidyCase):
    def test_all_on_the_left(self):
        for words in OTHERS:
            self.assert_area("all & (%s)" % words, words)
        self.assert_area("all & all", "all")

    def test_all_on_the_right(self):
        for words in OTHERS:
            self.assert_area("(%s) & all" % words, words)

    def test_the_same(self):
        for words in OTHERS:
            self.assert_area("(%s) & (%s)" % (words, words), words)

    def test_the_same_is_seen_in_the_one_form(self):
        self.assert_areas((
            ("ball 1 & ball 001", "ball 1"), ("ring 0 & ring 00", "ring 0"), ("(fire) & fire", "fire"), ("fire & ((fire))", "fire"),
            ("(fire|ice) & ( fire  |\t(ice) )", "fire | ice"), ("(fire & ice) & (((fire) & ice))", "fire & ice"),
        ))

    def test_not_the_same(self):
        self.assert_as_it_is((
            "ball 1 & ball 2", "ball 1 & ring 1", "fire & ice", "ball 0 & target", "(fire | ice) & (ice | fire)", "fire & ice & (ice & fire)",
            "(fire | ice | water) & (fire | (ice | water))", "fire & ice & water & (fire & (ice & water))", "fire & not fire", "fire & grow fire",
            "beings & foes",
        ))

    def test_the_right_one_is_an_or_with_the_left_one_in_it(self):
        for words in OTHERS:
            self.assert_area("(%s) & ((%s) | foes)" % (words, words), words)
            self.assert_area("(%s) & (foes | (%s))" % (words, words), words)

    def test_the_left_one_is_an_or_with_the_right_one_in_it(self):
        self.assert_as_it_is(("(fire | self) & fire", "(self | fire) & fire", "(fire | self | ice) & ice"))

    def test_the_operands_of_the_last_or_of_a_chain(self):
        self.assert_areas((
            ("fire & (ice | water | fire)", "fire"), ("(ice | water) & (ice | water | fire)", "ice | water"),
            ("fire & (ice | water | self | fire)", "fire"), ("(ice | water | self) & (ice | water | self | fire)", "ice | water | self"),
            ("fire & (ice | (water | fire))", "fire & (ice | (water | fire))"), ("(water | fire) & (ice | (water | fire))", "water | fire"),
            ("ice & (ice | (water | fire))", "ice"), ("(ice & water) & (fire | ice & water)", "ice & water"),
            ("ice & fire & (fire | self)", "ice & fire & (fire | self)"), ("ice & (fire & (fire | self))", "ice & fire"),
        ))
        self.assert_as_it_is((
            "fire & (fire | ice | water)", "fire & (ice | fire | water)", "(ice | water) & (fire | ice | water)",
            "(ice | fire) & (ice | water | fire)", "water & (ice | water & fire)", "water & (water & fire | ice)",
        ))

    def test_the_right_one_is_an_and(self):
        self.assert_as_it_is(("fire & (fire & ice)", "fire & (ice & fire)", "fire & ice & fire", "fire & ice & (fire & ice & water)"))

    def test_the_right_one_is_a_not_of_an_or(self):
        self.assert_as_it_is(("fire & not (fire | ice)", "fire & grow (fire | ice)", "not fire & (not ice | fire)"))
        self.assert_area("not fire & (ice | not fire)", "not fire")


class Or(TidyCase):
    def test_all_on_either_side(self):
        for words in OTHERS + ("all",):
            self.assert_area("all | (%s)" % words, "all")
            self.assert_area("(%s) | all" % words, "all")

    def test_the_same(self):
        for words in OTHERS:
            self.assert_area("(%s) | (%s)" % (words, words), words)

    def test_not_the_same(self):
        self.assert_as_it_is((
            "ball 1 | ball 2", "ball 1 | ring 1", "fire | ice", "ball 0 | target", "fire | ice | (ice | fire)", "fire & ice | ice & fire",
            "fire | ice | water | (fire | (ice | water))", "fire | not fire", "fire | grow fire", "foes | friends",
        ))

    def test_the_right_one_is_an_and_with_the_left_one_in_it(self):
        for words in OTHERS:
            self.assert_area("(%s) | (%s) & foes" % (words, words), words)
            self.assert_area("(%s) | foes & (%s)" % (words, words), words)

    def test_the_left_one_is_an_and_with_the_right_one_in_it(self):
        self.assert_as_it_is(("fire & self | fire", "self & fire | fire", "fire & self & ice | ice"))

    def test_the_operands_of_the_last_and_of_a_chain(self):
        self.assert_areas((
            ("fire | ice & water & fire", "fire"), ("ice & water | ice & water & fire", "ice & water"),
            ("fire | ice & water & self & fire", "fire"), ("ice & water & self | ice & water & self & fire", "ice & water & self"),
            ("water & fire | ice & (water & fire)", "water & fire"), ("ice | ice & (water & fire)", "ice"),
            ("ice | water | fire & (ice | water)", "ice | water"), ("ice | (fire | fire & self)", "ice | fire"),
        ))
        self.assert_as_it_is((
            "fire | fire & ice & water", "fire | ice & fire & water", "ice & water | fire & ice & water", "ice & fire | ice & water & fire",
            "fire | ice & (water & fire)", "water | ice & (water | fire)", "ice | fire | fire & self",
        ))

    def test_the_right_one_is_an_or(self):
        self.assert_as_it_is(("fire | (fire | ice)", "fire | (ice | fire)", "fire | ice | fire", "fire | ice | (fire | ice | water)"))

    def test_the_right_one_is_a_not_of_an_and(self):
        self.assert_as_it_is(("fire | not (fire & ice)", "fire | grow (fire & ice)"))
        self.assert_area("not fire | ice & not fire", "not fire")


class Chains(TidyCase):
    def test_joined_from_the_left(self):
        self.assert_areas((
            ("fire & fire & self", "fire & self"), ("fire | fire | self", "fire | self"), ("fire & fire & fire", "fire"),
            ("self & all & fire", "self & fire"), ("all & self & fire", "self & fire"), ("self & fire & all", "self & fire"),
            ("self | all | fire", "all"), ("self | fire & all", "self | fire"), ("all & fire | self", "fire | self"),
            ("fire | ice & fire | self", "fire | self"), ("fire & (ice | fire) & self", "fire & self"),
            ("fire & ice | fire & ice & self", "fire & ice"), ("fire & ice & (fire & ice | self)", "fire & ice"),
            ("fire | self | ice & (fire | self)", "fire | self"),
        ))
        self.assert_as_it_is(("fire & self & fire", "fire | self | fire", "self & fire & self & fire", "self & fire & ice"))

    def test_the_left_operand_of_a_chain_is_all_before_it(self):
        self.assert_as_it_is((
            "self & fire & fire", "self | fire | fire", "self & fire & (fire | ice)", "self & fire & (self | ice)", "self | fire | fire & ice",
            "self | fire | ice & self",
        ))

    def test_long_chains(self):
        for sign in "&|":
            self.assert_area(sign.join(["ice"] * 65), "ice")
            self.assert_area(sign.join(["all"] * 65), "all")
            self.assert_area("fire" + (sign + "ice") * 60, "fire" + (" " + sign + " ice") * 60)
            self.assert_area("(" * 12 + sign.join(["ice"] * 60) + ")" * 12, "ice")
        self.assert_area("&".join(["all"] * 64 + ["ice"]), "ice")
        self.assert_area("&".join(["ice"] + ["all"] * 64), "ice")
        self.assert_area("|".join(["ice"] * 64 + ["all"]), "all")
        self.assert_area("|".join(["ice", "fire"] * 29), " | ".join(["ice", "fire"] * 29))
        self.assert_area("ice&(" + "|".join(["fire"] * 50) + "|ice)", "ice")
        chain = "|".join(["ice", "fire"] * 14)
        self.assert_area("(" + chain + ")&(" + chain + "|self)", chain.replace("|", " | "))
        chain = "&".join(["ice", "fire"] * 14)
        self.assert_area(chain + "|" + chain + "&self", chain.replace("&", " & "))

    def test_a_form_longer_than_a_text(self):
        chain = "|".join(["ice", "all&wall"] * 20 + ["fire"] * 5)
        told = tidied("blink on " + chain)
        self.assertEqual(told, "blink on " + "ice | wall | " * 20 + " | ".join(["fire"] * 5))
        self.assertGreater(len(told), 250)
        chain = "fire" + "|ice" * 71
        self.assertEqual(tidied("blink on " + chain), "blink on fire" + " | ice" * 71)
        self.assertGreater(len(tidied("blink on " + chain)), 300)


class PartsFirst(TidyCase):
    def test_what_comes_out_is_looked_at_one_level_up(self):
        self.assert_areas((
            ("not (not fire & all)", "fire"), ("not (all & not fire)", "fire"), ("not (not fire | not fire)", "fire"),
            ("not not not (fire & fire)", "not fire"), ("grow (all | fire)", "all"), ("grow not not all", "all"), ("grow (fire | grow all)", "all"),
            ("fire & not not fire", "fire"), ("not not fire & fire", "fire"), ("fire & grow all", "fire"), ("grow all & fire", "fire"),
            ("fire | grow all", "all"), ("fire | not not all", "all"), ("fire & (fire | fire)", "fire"),
            ("(fire | fire) & (ice | fire & all)", "fire"), ("fire & (not not (ice | fire))", "fire"), ("fire | not not (ice & fire)", "fire"),
            ("fire & all & (ice | fire)", "fire"), ("fire & (all & (fire | ice))", "fire"), ("fire | (ice & fire | ice & fire)", "fire"),
            ("(self & all) | (ice & grow all & self)", "self"), ("grow (fire & (grow all | ice)) & grow fire", "grow fire"),
            ("not (not (fire | ice)) & (fire | ice)", "fire | ice"), ("not (not (not (not self)))", "self"),
            ("grow (not (not all)) & (foes | foes)", "foes"),
        ))

    def test_what_comes_out_takes_a_sentence_away(self):
        """Before the parts were simpler a sentence would have fitted, or another one."""
        self.assert_areas((
            ("(fire | ice) & (fire | fire)", "(fire | ice) & fire"), ("fire & ((fire | all) & ice)", "fire & ice"),
            ("fire | (fire & all | ice)", "fire | (fire | ice)"), ("not (not fire & ice)", "not (not fire & ice)"),
            ("self & (all | self)", "self"), ("self | all & self", "self"), ("fire & (fire & all | ice)", "fire"),
        ))

    def test_the_same_only_when_made_simpler(self):
        self.assert_areas((
            ("not not fire & all & fire", "fire"), ("(fire & all) | (fire | fire)", "fire"), ("(ice | all) & fire | fire", "fire"),
            ("grow (fire & fire) | grow not not fire", "grow fire"),
        ))


class OneForm(TidyCase):
    def test_brackets_of_what_comes_out(self):
        self.assert_areas((
            ("not not (fire | ice)", "fire | ice"), ("not not (fire | ice) & self", "(fire | ice) & self"),
            ("self & not not (fire | ice)", "self & (fire | ice)"), ("self & not not (fire & ice)", "self & (fire & ice)"),
            ("not not (fire & ice) & self", "fire & ice & self"), ("self | not not (fire | ice)", "self | (fire | ice)"),
            ("not not (fire | ice) | self", "fire | ice | self"), ("self | not not (fire & ice)", "self | fire & ice"),
            ("grow (all & (fire | ice))", "grow (fire | ice)"), ("grow (all & (fire & fire))", "grow fire"),
            ("not ((fire | ice) & all)", "not (fire | ice)"), ("(self | self) & (fire | ice)", "self & (fire | ice)"),
            ("((fire | ice) & (fire | ice)) & self", "(fire | ice) & self"), ("grow not not not (fire & ice)", "grow not (fire & ice)"),
            ("(fire | fire) & (ice | ice)", "fire & ice"), ("(((fire)))", "fire"),
        ))

    def test_blanks_and_zeros(self):
        self.assertEqual(tidied(" hurt\t007 on((ball 02|(fire)))&not(self)when foes\n;\rblink on all "),
                         "hurt 7 on (ball 2 | fire) & not self when foes; blink on all")

    def test_what_can_not_be_simpler_is_printed(self):
        for words in (
            "hurt 3 on (ball 2 | fire) & not self when foes; blink on all", "set wall on wall when wall", "set fire on not fire; push 5 on line",
            "heal 99 on friends & ring 2 | self; pull 1 on grow grow bolt when burst 4",
        ):
            self.assertEqual(tidied(words), words)
            self.assertEqual(form(words), words)

    def test_made_simpler_once_more_nothing_changes(self):
        for words in ("fire & (fire & all | ice)", "not (not (not self)) | (ice | ice) & grow all", "self & fire & fire | self & fire & fire"):
            once = tidied("blink on " + words)
            self.assertEqual(tidied(once), once)


class Steps(unittest.TestCase):
    def test_every_area_of_every_step(self):
        self.assertEqual(
            tidied("hurt 1 on not not fire when grow all; set fire on fire & fire; heal 2 on all when ice | ice; blink on self | all"),
            "hurt 1 on fire when all; set fire on fire; heal 2 on all when ice; blink on all",
        )

    def test_an_area_alone_does_not_matter_to_another(self):
        self.assertEqual(tidied("hurt 1 on fire when fire; hurt 1 on fire"), "hurt 1 on fire when fire; hurt 1 on fire")
        self.assertEqual(tidied("hurt 1 on all when all"), "hurt 1 on all when all")
        self.assertEqual(tidied("blink on not all; blink on all when not all"), "blink on not all; blink on all when not all")

    def test_acts_stay(self):
        words = "hurt 99 on all; heal 1 on all; push 5 on all; pull 1 on all; set wall on all; set ice on all; blink on all"
        self.assertEqual(tidied(words), words)

    def test_the_answer_is_a_row(self):
        self.assertEqual(last(open_level(2, 2), tidy("blink  on grow all")), [0, 12] + list(b"blink on all"))

    def test_faulty_texts(self):
        for words in ("", "all", "grow all", "hurt 1 on all;", "hurt 100 on all", "hurt 1 on all @", "blink on " + "not " * 13 + "all", "blink on all all"):
            self.assertEqual(last(open_level(2, 2), tidy(words)), [-4], words)

    def test_the_level_stays(self):
        self.assertEqual(run(open_level(2, 2), tidy("blink on all"), tidy("blink"), [14])[3], [0, 2, 2, 1, 0, 0])


if __name__ == "__main__":
    unittest.main()
