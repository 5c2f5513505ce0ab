"""Points 4, 10 and 11: who wins, and with which choices."""

import unittest

from oathduel.errors import NoVariable
from oathduel.sentences import comes_true, left_of
from oathduel.walks import winner_from, winner_of, winning_choices
from tests.samples import all_begun, all_fillings, drawn_sentences, plain_choices, plain_winner, small_sentences


class WinnerTest(unittest.TestCase):
    def test_the_one_who_fills_in_last_can_look_at_what_is_filled_in(self):
        alike = [(1, -2), (-1, 2)]
        self.assertEqual(winner_of(("sw", alike)), "wisher")
        self.assertEqual(winner_of(("ws", alike)), "spoiler")
        self.assertEqual(winner_of(("ww", alike)), "wisher")
        self.assertEqual(winner_of(("ss", alike)), "spoiler")

    def test_one_variable(self):
        for literal in (1, -1):
            self.assertEqual(winner_of(("w", [(literal,)])), "wisher")
            self.assertEqual(winner_of(("s", [(literal,)])), "spoiler")
            self.assertEqual(winner_of(("w", [(literal,), (-literal,)])), "spoiler")

    def test_no_variables(self):
        self.assertEqual(winner_of(("", [])), "wisher")
        self.assertEqual(winner_from(("", []), []), "wisher")
        self.assertEqual(winner_of(("", [()])), "spoiler")
        self.assertEqual(winner_from(("", [()]), []), "spoiler")

    def test_no_clauses_and_an_empty_clause(self):
        for turns in ("w", "s", "ws", "sw", "ss", "ww", "ws" * 6):
            self.assertEqual(winner_of((turns, [])), "wisher")
            self.assertEqual(winner_of((turns, [()])), "spoiler")
            self.assertEqual(winner_of((turns, [(1,), ()])), "spoiler")

    def test_the_same_clause_twice_is_as_once(self):
        for turns in ("ws", "sw"):
            for clause in ((1,), (-2,), (1, 2)):
                self.assertEqual(winner_of((turns, [clause, clause])), winner_of((turns, [clause])))

    def test_behind_a_whole_filling_it_is_told_by_what_comes_true(self):
        for sentence in small_sentences():
            for filling in all_fillings(len(sentence[0])):
                winner = "wisher" if comes_true(sentence, filling) else "spoiler"
                self.assertEqual(winner_from(sentence, filling), winner)

    def test_small_sentences_against_a_plain_walk(self):
        for sentence in small_sentences():
            self.assertEqual(winner_of(sentence), plain_winner(sentence, []))
            for begun in all_begun(len(sentence[0])):
                self.assertEqual(winner_from(sentence, begun), plain_winner(sentence, begun), (sentence, begun))

    def test_both_hands_win_often_enough_for_the_walks_to_tell(self):
        winners = [plain_winner(sentence, []) for sentence in small_sentences()]
        self.assertGreater(winners.count("wisher"), 100)
        self.assertGreater(winners.count("spoiler"), 100)

    def test_some_larger_sentences_against_a_plain_walk(self):
        for sentence in drawn_sentences(83, 8, (8, 9), 14) + drawn_sentences(5, 2, (12,), 20):
            self.assertEqual(winner_of(sentence), plain_winner(sentence, []), sentence)

    def test_what_is_left_is_won_by_the_same_hand(self):
        for sentence in drawn_sentences(61, 60, (3, 4), 6):
            for begun in all_begun(len(sentence[0])):
                self.assertEqual(winner_from(left_of(sentence, begun), begun), winner_from(sentence, begun))

    def test_twelve_variables_told_late(self):
        late = [(11, 12), (-11, 12), (11, -12), (-11, -12)] * 50
        self.assertEqual(winner_of(("w" * 12, late)), "spoiler")
        self.assertEqual(winner_of(("w" * 12, late[:3])), "wisher")
        self.assertEqual(winner_of(("s" * 11 + "w", late[:2])), "wisher")

    def test_more_clauses_and_variables_than_are_walked_as_a_rule(self):
        pairs = [clause for k in range(1, 15, 2) for clause in ((k, -k - 1), (-k, k + 1))]
        self.assertEqual(winner_of(("sw" * 7, pairs)), "wisher")
        self.assertEqual(winner_of(("sw" * 6 + "ws", pairs)), "spoiler")


class WinningChoicesTest(unittest.TestCase):
    def test_the_choices_of_the_wisher(self):
        sentence = ("sw", [(1, -2), (-1, 2)])
        self.assertEqual(winning_choices(sentence, [False]), [False])
        self.assertEqual(winning_choices(sentence, [True]), [True])
        self.assertEqual(winning_choices(("w", []), []), [False, True])
        self.assertEqual(winning_choices(("w", [()]), []), [])

    def test_the_choices_of_the_spoiler(self):
        self.assertEqual(winning_choices(("s", [(1,)]), []), [False])
        self.assertEqual(winning_choices(("s", [(-1,)]), []), [True])
        self.assertEqual(winning_choices(("s", [()]), []), [False, True])
        self.assertEqual(winning_choices(("s", []), []), [])

    def test_false_stands_ahead_of_true(self):
        self.assertEqual(winning_choices(("sw", [(1, 2)]), [True]), [False, True])
        self.assertEqual(winning_choices(("ws", [(1, 2)]), []), [True])
        self.assertEqual(winning_choices(("wss", [(1,), (-1,)]), [True]), [False, True])

    def test_the_values_are_true_and_false_themselves(self):
        for value in winning_choices(("ww", []), []):
            self.assertIsInstance(value, bool)

    def test_small_sentences_against_a_plain_walk(self):
        for sentence in small_sentences():
            for begun in all_begun(len(sentence[0]) - 1):
                self.assertEqual(winning_choices(sentence, begun), plain_choices(sentence, begun), (sentence, begun))

    def test_refused_behind_a_whole_filling(self):
        for sentence in (("w", [(1,)]), ("s", []), ("ws", [()]), ("sws", [(1, -3)])):
            for filling in all_fillings(len(sentence[0])):
                with self.assertRaises(NoVariable):
                    winning_choices(sentence, filling)

    def test_refused_where_there_are_no_variables(self):
        for clauses in ([], [()]):
            with self.assertRaises(NoVariable):
                winning_choices(("", clauses), [])


if __name__ == "__main__":
    unittest.main()
