"""Point 1: nothing handed in is changed, what is told is the asker's own, and no clock, chance or file is used."""

import copy
import unittest

from oathduel.sentences import comes_true, hand_of, is_sentence, is_set, left_of, stands_by
from oathduel.walks import winner_from, winner_of, winning_choices
from tests.samples import drawn_sentences

SENTENCE = ("wsws", [(1, 2), (-1, -2, 3), (), (3, -4), (1, 2)])


def questions():
    """Each function with something to ask it."""
    for sentence in [SENTENCE] + drawn_sentences(3, 30, (4,), 5):
        yield is_sentence, (sentence,)
        yield is_set, (sentence[1], 4)
        yield stands_by, (-2, [True, False])
        yield comes_true, (sentence, [True, False, False, True])
        yield hand_of, (sentence, 3)
        yield winner_of, (sentence,)
        for begun in ([], [True], [False, True], [True, True, False, False]):
            yield left_of, (sentence, begun)
            yield winner_from, (sentence, begun)
            yield winning_choices, (sentence, begun[:3])


class OwnTest(unittest.TestCase):
    def test_what_is_handed_in_stays_as_it_was(self):
        for function, arguments in questions():
            ahead = copy.deepcopy(arguments)
            function(*arguments)
            self.assertEqual(arguments, ahead, function.__name__)

    def test_the_same_question_has_the_same_answer(self):
        for function, arguments in questions():
            first = copy.deepcopy(function(*arguments))
            self.assertEqual(function(*arguments), first, function.__name__)

    def test_wrong_things_stay_as_they_were(self):
        for thing in ([1, 2], ["ws", [(2, 1)]], ("ws", [[2, 1], (1,), None])):
            ahead = copy.deepcopy(thing)
            self.assertIs(is_sentence(thing), False)
            self.assertIs(is_set(thing, 2), False)
            self.assertEqual(thing, ahead)

    def test_no_told_list_is_one_that_was_handed_in(self):
        for begun in ([], [True], [False, True, False, True]):
            sentence = ("wsws", [(1, 2), (3, -4)])
            told = left_of(sentence, begun)
            self.assertIsNot(told[1], sentence[1])
            ahead = copy.deepcopy(told)
            sentence[1].append((4,))
            begun.append(True)
            self.assertEqual(told, ahead)

    def test_changing_a_told_sentence_changes_nothing_told_later(self):
        for begun in ([], [False], [True, True, True, True]):
            sentence = copy.deepcopy(SENTENCE)
            told = left_of(sentence, begun)
            ahead = copy.deepcopy(told)
            told[1].clear()
            told[1].append((1,))
            self.assertEqual(sentence, SENTENCE)
            self.assertEqual(left_of(sentence, begun), ahead)

    def test_changing_told_choices_changes_nothing_told_later(self):
        for sentence in (("w", []), ("w", [()]), ("s", [()]), ("s", []), ("w", [(1,)])):
            told = winning_choices(sentence, [])
            ahead = list(told)
            told.append(None)
            told.reverse()
            self.assertEqual(winning_choices(sentence, []), ahead)


if __name__ == "__main__":
    unittest.main()
