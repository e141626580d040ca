"""The one form in which spells are printed."""

import unittest

from helper import form, last, open_level, print_form


class OneForm(unittest.TestCase):
    def assert_area_forms(self, forms):
        for words, expected in forms:
            self.assertEqual(form("blink on " + words), "blink on " + expected, words)
            self.assertEqual(form("hurt 1 on all when " + words), "hurt 1 on all when " + expected, words)

    def test_blanks(self):
        self.assertEqual(form("hurt   3\non\tall\rwhen ice  ;blink on all"), "hurt 3 on all when ice; blink on all")
        self.assertEqual(form("blink on not( all|ice )&fire"), "blink on not (all | ice) & fire")
        self.assertEqual(form("blink on not ( ( all | ice ) & fire )"), "blink on not ((all | ice) & fire)")
        self.assertEqual(form("blink on all ;blink on all ; blink on all"), "blink on all; blink on all; blink on all")
        self.assertEqual(form("blink on ice|( ice|fire ) ; blink on all"), "blink on ice | (ice | fire); blink on all")

    def test_numbers(self):
        self.assertEqual(form("hurt 007 on ball 003 | ring 00 | burst 09"), "hurt 7 on ball 3 | ring 0 | burst 9")
        self.assertEqual(form("heal 10 on all; push 05 on all; pull 1 on all"), "heal 10 on all; push 5 on all; pull 1 on all")

    def test_brackets_round_a_whole_area_are_not_needed(self):
        self.assert_area_forms((
            ("(all)", "all"), ("((all))", "all"), ("(all | ice)", "all | ice"), ("(all & ice)", "all & ice"),
            ("(not all)", "not all"), ("(ball 3)", "ball 3"), ("((ice | fire) | all)", "ice | fire | all"),
        ))

    def test_operands_of_and(self):
        self.assert_area_forms((
            ("(ice | fire) & all", "(ice | fire) & all"), ("all & (ice | fire)", "all & (ice | fire)"),
            ("(ice | fire) & (wall | self)", "(ice | fire) & (wall | self)"),
            ("(ice & fire) & all", "ice & fire & all"), ("all & (ice & fire)", "all & (ice & fire)"),
            ("all & (ice & (fire & self))", "all & (ice & (fire & self))"), ("((all & ice) & fire) & self", "all & ice & fire & self"),
            ("(not all) & (grow ice)", "not all & grow ice"), ("(all) & (ball 1)", "all & ball 1"),
        ))

    def test_operands_of_or(self):
        self.assert_area_forms((
            ("(ice | fire) | all", "ice | fire | all"), ("all | (ice | fire)", "all | (ice | fire)"),
            ("(ice & fire) | all", "ice & fire | all"), ("all | (ice & fire)", "all | ice & fire"),
            ("all | (ice | (fire | self))", "all | (ice | (fire | self))"), ("((all | ice) | fire) | self", "all | ice | fire | self"),
            ("(not all) | (grow ice)", "not all | grow ice"), ("(all) | (ball 1)", "all | ball 1"),
            ("all | ((ice | fire) & self)", "all | (ice | fire) & self"), ("all | (ice & (fire & self))", "all | ice & (fire & self)"),
        ))

    def test_behind_not_and_grow(self):
        for word in ("not", "grow"):
            self.assert_area_forms((
                (word + " (all)", word + " all"), (word + " (ball 1)", word + " ball 1"),
                (word + " (ice | fire)", word + " (ice | fire)"), (word + " (ice & fire)", word + " (ice & fire)"),
                (word + " ((ice & fire))", word + " (ice & fire)"), (word + " (not all)", word + " not all"),
                (word + " (grow all)", word + " grow all"), ("not " + word + " (not ((all)))", "not " + word + " not all"),
                ("(" + word + " ice) & fire", word + " ice & fire"), (word + " (" + word + " (ice | fire))", word + " " + word + " (ice | fire)"),
            ))

    def test_what_was_printed_is_printed_again(self):
        for words in (
            "hurt 1 on ((ice|fire)&(wall|(self|line)))&(bolt&all)|(foes|(ring 3&(water&ball 0)))",
            "blink on not(ice&fire)|grow(wall|self)&(not((line)))when((ice))&((fire|wall))",
            "set fire on((((ice|fire)|wall)&self)|line)&(bolt|all);pull 3 on ice|(fire|(wall|(self&(line&bolt))))",
        ):
            once = form(words)
            self.assertNotEqual(once, words)
            self.assertEqual(form(once), once)

    def test_the_answer_is_a_row(self):
        self.assertEqual(last(open_level(2, 2), print_form("blink  on all")), [0, 12] + list(b"blink on all"))

    def test_a_form_longer_than_a_text(self):
        chain = "|".join(["ice"] * 72)
        self.assertEqual(len(form("blink on " + chain)), 9 + 72 * 3 + 71 * 3)


if __name__ == "__main__":
    unittest.main()
