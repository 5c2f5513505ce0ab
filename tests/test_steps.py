"""Points 24 and 25: what each kind of step does to a sentence, and that the same hand wins it."""

import unittest

from oathduel.steps import smaller_by
from oathduel.walks import winner_of
from tests.samples import (
    all_steps, drawn_sentences, plain_smaller, plain_winner, small_sentences, tiny_sentences, tried_steps,
)

WORDS = ("drop", "unit", "pure", "within", "blocked")


class KindsTest(unittest.TestCase):
    def assert_left(self, turns, clauses, step, left):
        ahead = list(clauses)
        self.assertEqual(smaller_by((turns, clauses), step), (turns, left))
        self.assertEqual(clauses, ahead)

    def test_a_drop_takes_the_spoilers_last_literals_out(self):
        self.assert_left("wssw", [(1, 2, -3)], ("drop", 0), [(1,)])
        self.assert_left("swsws", [(-1, 2, 3, -4, 5)], ("drop", 0), [(-1, 2, 3, -4)])
        self.assert_left("swsss", [(-1, 2, 3, -4, 5)], ("drop", 0), [(-1, 2)])

    def test_a_drop_of_one_hands_literals_alone(self):
        self.assert_left("www", [(1, 2, 3)], ("drop", 0), [(1, 2, 3)])
        self.assert_left("sss", [(1, -2, 3)], ("drop", 0), [()])
        self.assert_left("wsw", [(2,)], ("drop", 0), [()])

    def test_a_drop_goes_by_the_variables_of_the_clause_alone(self):
        # The wisher's variables 4 and 1 are not in the clauses, so they keep nothing in them.
        self.assert_left("wssw", [(2, 3), (1, 3)], ("drop", 0), [(), (1, 3)])
        self.assert_left("wssw", [(2, 3), (1, 3)], ("drop", 1), [(2, 3), (1,)])

    def test_a_drop_that_takes_nothing_out(self):
        self.assert_left("sw", [(1, 2), (2,)], ("drop", 0), [(1, 2), (2,)])
        self.assert_left("sw", [(1, 2), ()], ("drop", 1), [(1, 2), ()])
        self.assert_left("", [()], ("drop", 0), [()])

    def test_a_drop_leaves_the_other_clauses(self):
        clauses = [(1, 2), (1, 2), (-1, 2)]
        for place, left in enumerate(([(1,), (1, 2), (-1, 2)], [(1, 2), (1,), (-1, 2)], [(1, 2), (1, 2), (-1,)])):
            self.assert_left("ws", clauses, ("drop", place), left)

    def test_a_unit_is_taken_to_stand(self):
        clauses = [(1, 2), (-1, 2, 3), (1,), (2, -3), (-1,), (1,)]
        self.assert_left("wss", clauses, ("unit", 2), [(2, 3), (2, -3), ()])
        self.assert_left("wss", clauses, ("unit", 5), [(2, 3), (2, -3), ()])
        self.assert_left("wss", clauses, ("unit", 4), [(2,), (), (2, -3), ()])

    def test_a_unit_of_no_and_of_a_later_variable(self):
        self.assert_left("ssw", [(-3,), (1, 3), (2, -3)], ("unit", 0), [(1,)])
        self.assert_left("w", [(-1,)], ("unit", 0), [])
        self.assert_left("ww", [(2,), ()], ("unit", 0), [()])

    def test_a_pure_literal_of_the_wishers_lets_its_clauses_go(self):
        clauses = [(1, 2), (2, 3), (1, -2), ()]
        self.assert_left("wss", clauses, ("pure", 1), [(2, 3), ()])
        self.assert_left("wsw", clauses, ("pure", 3), [(1, 2), (1, -2), ()])
        self.assert_left("w", [(-1,), (-1,)], ("pure", -1), [])

    def test_a_pure_literal_of_the_spoilers_goes_out(self):
        clauses = [(1, 2), (2, 3), (1, -2), ()]
        self.assert_left("sww", clauses, ("pure", 1), [(2,), (2, 3), (-2,), ()])
        self.assert_left("sws", clauses, ("pure", 3), [(1, 2), (2,), (1, -2), ()])
        self.assert_left("s", [(-1,), (-1,)], ("pure", -1), [(), ()])

    def test_a_clause_that_has_all_of_another_goes(self):
        clauses = [(1, 2, 3), (1, 3), (-2,), (1, 3)]
        self.assert_left("wsw", clauses, ("within", 0, 1), [(1, 3), (-2,), (1, 3)])
        self.assert_left("wsw", clauses, ("within", 0, 3), [(1, 3), (-2,), (1, 3)])

    def test_of_two_alike_either_goes(self):
        clauses = [(1, 3), (-2,), (1, 3), ()]
        self.assert_left("wsw", clauses, ("within", 0, 2), [(-2,), (1, 3), ()])
        self.assert_left("wsw", clauses, ("within", 2, 0), [(1, 3), (-2,), ()])
        self.assert_left("", [(), ()], ("within", 1, 0), [()])

    def test_the_empty_clause_is_within_each_other(self):
        clauses = [(1,), (), (-1,)]
        self.assert_left("s", clauses, ("within", 0, 1), [(), (-1,)])
        self.assert_left("s", clauses, ("within", 2, 1), [(1,), ()])

    def test_blocked_by_a_lesser_variable_the_other_way_about(self):
        self.assert_left("sw", [(1, 2), (-1, -2)], ("blocked", 0, 2), [(-1, -2)])
        self.assert_left("sw", [(1, 2), (-1, -2)], ("blocked", 1, -2), [(1, 2)])
        # Each clause with the opposite may have a lesser variable of its own for it.
        clauses = [(1, -2, 4), (-1, -4), (2, -3, -4), (3,)]
        self.assert_left("swsw", clauses, ("blocked", 0, 4), [(-1, -4), (2, -3, -4), (3,)])

    def test_blocked_where_no_clause_has_the_opposite(self):
        clauses = [(1, 2), (-1, 2), (-1, 3)]
        self.assert_left("sww", clauses, ("blocked", 0, 2), [(-1, 2), (-1, 3)])
        self.assert_left("sww", clauses, ("blocked", 2, 3), [(1, 2), (-1, 2)])
        self.assert_left("w", [(-1,)], ("blocked", 0, -1), [])

    def test_the_lesser_variable_may_be_of_either_hand(self):
        for turns in ("sw", "ww"):
            self.assert_left(turns, [(1, 2), (-1, -2)], ("blocked", 0, 2), [(-1, -2)])

    def test_the_last_clause_may_go(self):
        for turns, clauses, step in (("w", [(1,)], ("unit", 0)), ("w", [(1,)], ("pure", 1)),
                                     ("sw", [(1, 2)], ("blocked", 0, 2))):
            self.assert_left(turns, clauses, step, [])

    def test_each_step_and_what_is_none_against_the_words(self):
        counts = dict.fromkeys(WORDS, 0)
        for sentence in tiny_sentences() + drawn_sentences(24, 150, (3, 4, 5), 7):
            for step in all_steps(sentence):
                self.assertEqual(smaller_by(sentence, step), (sentence[0], plain_smaller(sentence, step)))
                counts[step[0]] += 1
        self.assertGreater(min(counts.values()), 100, counts)

    def test_a_sentence_at_the_bounds(self):
        for sentence in drawn_sentences(25, 3, (40,), 200):
            for step in tried_steps(sentence)[::37]:
                left = plain_smaller(sentence, step)
                if left is not None:
                    self.assertTrue(smaller_by(sentence, step) == (sentence[0], left))


class SameHandTest(unittest.TestCase):
    def test_the_same_hand_wins_behind_each_step(self):
        seen = {}
        for sentence in small_sentences() + drawn_sentences(26, 100, (5, 6), 12):
            winner = plain_winner(sentence, [])
            for step in all_steps(sentence):
                told = smaller_by(sentence, step)
                self.assertEqual(winner_of(told), winner, (sentence, step))
                seen[step[0], winner] = seen.get((step[0], winner), 0) + 1
        self.assertEqual(len(seen), 10)
        self.assertGreater(min(seen.values()), 100, seen)

    def test_steps_one_behind_the_other(self):
        for sentence in drawn_sentences(27, 60, (4, 5), 9):
            winner = plain_winner(sentence, [])
            left = sentence
            for number in range(30):
                steps = all_steps(left)
                if not steps:
                    break
                left = smaller_by(left, steps[number * 7 % len(steps)])
                self.assertEqual(plain_winner(left, []), winner)


if __name__ == "__main__":
    unittest.main()
