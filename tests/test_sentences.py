"""Points 2, 3, 4, 8 and 9: what stands, what comes true, whose turn it is, what is left."""

import unittest

from oathduel.errors import NoVariable
from oathduel.sentences import comes_true, hand_of, is_sentence, left_of, stands_by
from tests.samples import (
    MANY_FIGURES, TOO_MANY_TO_WRITE, all_begun, all_fillings, drawn_sentences, plainly_true, small_sentences,
)


class StandsByTest(unittest.TestCase):
    def test_a_variable_stands_where_yes_is_filled_in(self):
        self.assertIs(stands_by(1, [True, False, True]), True)
        self.assertIs(stands_by(2, [True, False, True]), False)
        self.assertIs(stands_by(3, [True, False, True]), True)

    def test_an_opposite_stands_where_no_is_filled_in(self):
        self.assertIs(stands_by(-1, [True, False, False]), False)
        self.assertIs(stands_by(-2, [True, False, False]), True)
        self.assertIs(stands_by(-3, [True, False, False]), True)

    def test_none_where_the_filling_does_not_go_so_far(self):
        for literal in (3, -3, 4, -40, MANY_FIGURES, -MANY_FIGURES, TOO_MANY_TO_WRITE, -TOO_MANY_TO_WRITE):
            self.assertIsNone(stands_by(literal, [True, False]))
        for literal in (1, -1):
            self.assertIsNone(stands_by(literal, []))

    def test_the_last_variable_filled_in(self):
        for value in (True, False):
            self.assertIs(stands_by(40, [not value] * 39 + [value]), value)
            self.assertIs(stands_by(-40, [not value] * 39 + [value]), not value)

    def test_there_is_no_variable_nought(self):
        for filling in ([], [True], [False, True], [False] * 40):
            with self.assertRaises(NoVariable):
                stands_by(0, filling)


class ComesTrueTest(unittest.TestCase):
    def test_each_clause_needs_a_literal_that_stands(self):
        sentence = ("wsw", [(1, -2), (2, 3)])
        self.assertIs(comes_true(sentence, [True, True, False]), True)
        self.assertIs(comes_true(sentence, [False, True, True]), False)
        self.assertIs(comes_true(sentence, [False, False, True]), True)
        self.assertIs(comes_true(sentence, [False, False, False]), False)

    def test_without_clauses_it_always_comes_true(self):
        self.assertIs(comes_true(("", []), []), True)
        for filling in all_fillings(2):
            self.assertIs(comes_true(("ws", []), filling), True)

    def test_an_empty_clause_never_lets_it(self):
        self.assertIs(comes_true(("", [()]), []), False)
        for filling in all_fillings(2):
            self.assertIs(comes_true(("ws", [(1, 2), ()]), filling), False)
            self.assertIs(comes_true(("ws", [(), (1, 2)]), filling), False)

    def test_the_same_clause_twice_is_as_once(self):
        for filling in all_fillings(2):
            once = comes_true(("ws", [(1, -2)]), filling)
            self.assertIs(comes_true(("ws", [(1, -2), (1, -2)]), filling), once)

    def test_whose_turn_it_is_does_not_matter(self):
        for filling in all_fillings(2):
            told = {comes_true((turns, [(1,), (-2,)]), filling) for turns in ("ww", "ws", "sw", "ss")}
            self.assertEqual(told, {filling == [True, False]})

    def test_every_filling_of_small_sentences(self):
        for sentence in small_sentences():
            for filling in all_fillings(len(sentence[0])):
                self.assertIs(comes_true(sentence, filling), plainly_true(sentence, filling))

    def test_as_large_as_sentences_come(self):
        sentence = ("ws" * 20, [(k % 39 + 1, -40) for k in range(200)])
        self.assertIs(comes_true(sentence, [False] * 40), True)
        self.assertIs(comes_true(sentence, [True] * 38 + [False, True]), False)
        self.assertIs(comes_true(sentence, [True] * 40), True)


class HandOfTest(unittest.TestCase):
    def test_the_turns_signs_tell_the_hands(self):
        sentence = ("wssw", [(1, 2), ()])
        hands = [hand_of(sentence, variable) for variable in (1, 2, 3, 4)]
        self.assertEqual(hands, ["wisher", "spoiler", "spoiler", "wisher"])

    def test_one_variable(self):
        self.assertEqual(hand_of(("w", []), 1), "wisher")
        self.assertEqual(hand_of(("s", []), 1), "spoiler")

    def test_the_last_of_many(self):
        self.assertEqual(hand_of(("w" * 39 + "s", []), 40), "spoiler")

    def test_refused_where_there_is_no_such_variable(self):
        beyond = (0, -1, -2, -4, 5, 6, 41, MANY_FIGURES, -MANY_FIGURES, TOO_MANY_TO_WRITE, -TOO_MANY_TO_WRITE)
        for variable in beyond:
            with self.assertRaises(NoVariable):
                hand_of(("wssw", [(1, 2)]), variable)

    def test_refused_where_there_are_no_variables(self):
        for variable in (0, 1, -1):
            with self.assertRaises(NoVariable):
                hand_of(("", []), variable)


class LeftOfTest(unittest.TestCase):
    def test_what_stands_goes_and_what_is_filled_in_goes_out(self):
        sentence = ("wsww", [(1, 2), (-1, 3, -4), (-2, 4), (3,)])
        self.assertEqual(left_of(sentence, [True]), ("wsww", [(3, -4), (-2, 4), (3,)]))
        self.assertEqual(left_of(sentence, [False]), ("wsww", [(2,), (-2, 4), (3,)]))
        self.assertEqual(left_of(sentence, [False, True]), ("wsww", [(4,), (3,)]))

    def test_a_clause_may_come_out_empty(self):
        self.assertEqual(left_of(("ws", [(1,), (2,)]), [False]), ("ws", [(), (2,)]))
        self.assertEqual(left_of(("ws", [(-1, -2)]), [True, True]), ("ws", [()]))

    def test_with_nothing_begun_all_is_left(self):
        for sentence in (("", []), ("", [()]), ("ws", []), ("ws", [(), (1, -2), (), (1, -2)])):
            self.assertEqual(left_of(sentence, []), sentence)

    def test_a_whole_filling_leaves_empty_clauses_or_none(self):
        sentence = ("ws", [(1,), (-2,), (1, 2)])
        self.assertEqual(left_of(sentence, [True, False]), ("ws", []))
        self.assertEqual(left_of(sentence, [False, True]), ("ws", [(), ()]))
        self.assertEqual(left_of(sentence, [False, False]), ("ws", [(), ()]))

    def test_clauses_that_come_out_alike_all_stay_in_their_order(self):
        sentence = ("wsw", [(1, 3), (2,), (-1, 2), (3,), (1, 3)])
        self.assertEqual(left_of(sentence, [False]), ("wsw", [(3,), (2,), (3,), (3,)]))

    def test_small_sentences_against_the_words(self):
        for sentence in small_sentences():
            for begun in all_begun(len(sentence[0])):
                self.assertEqual(left_of(sentence, begun), self.plainly_left(sentence, begun))

    def plainly_left(self, sentence, begun):
        standing = [k + 1 if value else -k - 1 for k, value in enumerate(begun)]
        left = [clause for clause in sentence[1] if not set(clause) & set(standing)]
        return (sentence[0], [tuple(x for x in clause if abs(x) > len(begun)) for clause in left])

    def test_what_is_left_is_a_sentence_that_comes_true_alike(self):
        for sentence in drawn_sentences(29, 60, (3, 4), 6):
            for filling in all_fillings(len(sentence[0])):
                for length in range(len(filling) + 1):
                    left = left_of(sentence, filling[:length])
                    self.assertIs(is_sentence(left), True)
                    self.assertIs(comes_true(left, filling), comes_true(sentence, filling))

    def test_as_large_as_sentences_come(self):
        sentence = ("ws" * 20, [(k % 39 + 1, -40) for k in range(200)])
        self.assertEqual(left_of(sentence, [True] * 39), ("ws" * 20, []))
        self.assertEqual(left_of(sentence, [False] * 39), ("ws" * 20, [(-40,)] * 200))


if __name__ == "__main__":
    unittest.main()
