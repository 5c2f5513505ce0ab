"""Point 1: nothing handed in is changed, what is told is the asker's own, and no clock, chance or file is used."""

import copy
import unittest

from oathduel.errors import BadLine, NotWhole
from oathduel.papers import is_whole, sets_of
from oathduel.plans import is_plan, plan_of
from oathduel.sentences import comes_true, hand_of, is_sentence, is_set, left_of, stands_by
from oathduel.walks import winner_from, winner_of, winning_choices
from tests.samples import drawn_sentences, whole_paper

SENTENCE = ("wsws", [(1, 2), (-1, -2, 3), (), (3, -4), (1, 2)])

SPOILERS = (("ws", [(1, 2), (-1, -2)]), ("spoiler", [
    ("given", 0), ("drop", 0), ("given", 1), ("drop", 2), ("join", 1, 3, 1),
]))
WISHERS = (("sw", [(1, -2), (-1, 2)]), ("wisher", [
    ("hits", (1, 2)), ("drop", 0), ("hits", (-1, -2)), ("drop", 2), ("join", 1, 3, 1),
]))
NO_RULES = (("swsw", []), ("wisher", [("hits", ())]))


def questions():
    """Each function with something to ask it."""
    for sentence in [SENTENCE] + drawn_sentences(3, 30, (4,), 5):
        yield is_sentence, (sentence,)
        yield is_set, (sentence[1], 4)
        yield stands_by, (-2, [True, False])
        yield comes_true, (sentence, [True, False, False, True])
        yield hand_of, (sentence, 3)
        yield winner_of, (sentence,)
        for begun in ([], [True], [False, True], [True, True, False, False]):
            yield left_of, (sentence, begun)
            yield winner_from, (sentence, begun)
            yield winning_choices, (sentence, begun[:3])
    for sentence, paper in [SPOILERS, WISHERS, NO_RULES] + drawn_papers():
        yield sets_of, (sentence, paper)
        yield is_whole, (sentence, paper)
        yield plan_of, (sentence, paper)
        yield is_plan, (sentence, paper[0], plan_of(sentence, paper))


def drawn_papers():
    return [(sentence, whole_paper(sentence)) for sentence in drawn_sentences(17, 30, (4,), 5)]


class OwnTest(unittest.TestCase):
    def test_what_is_handed_in_stays_as_it_was(self):
        for function, arguments in questions():
            ahead = copy.deepcopy(arguments)
            function(*arguments)
            self.assertEqual(arguments, ahead, function.__name__)

    def test_the_same_question_has_the_same_answer(self):
        for function, arguments in questions():
            first = copy.deepcopy(function(*arguments))
            self.assertEqual(function(*arguments), first, function.__name__)

    def test_wrong_things_stay_as_they_were(self):
        for thing in ([1, 2], ["ws", [(2, 1)]], ("ws", [[2, 1], (1,), None])):
            ahead = copy.deepcopy(thing)
            self.assertIs(is_sentence(thing), False)
            self.assertIs(is_set(thing, 2), False)
            self.assertEqual(thing, ahead)

    def test_no_told_list_is_one_that_was_handed_in(self):
        for begun in ([], [True], [False, True, False, True]):
            sentence = ("wsws", [(1, 2), (3, -4)])
            told = left_of(sentence, begun)
            self.assertIsNot(told[1], sentence[1])
            ahead = copy.deepcopy(told)
            sentence[1].append((4,))
            begun.append(True)
            self.assertEqual(told, ahead)

    def test_changing_a_told_sentence_changes_nothing_told_later(self):
        for begun in ([], [False], [True, True, True, True]):
            sentence = copy.deepcopy(SENTENCE)
            told = left_of(sentence, begun)
            ahead = copy.deepcopy(told)
            told[1].clear()
            told[1].append((1,))
            self.assertEqual(sentence, SENTENCE)
            self.assertEqual(left_of(sentence, begun), ahead)

    def test_changing_told_choices_changes_nothing_told_later(self):
        for sentence in (("w", []), ("w", [()]), ("s", [()]), ("s", []), ("w", [(1,)])):
            told = winning_choices(sentence, [])
            ahead = list(told)
            told.append(None)
            told.reverse()
            self.assertEqual(winning_choices(sentence, []), ahead)


class PapersAndPlansTest(unittest.TestCase):
    def papers(self):
        return copy.deepcopy([SPOILERS, WISHERS, NO_RULES] + drawn_papers())

    def test_wrong_papers_stay_as_they_were(self):
        for lines in ([["given", 0]], [("given", 0), ["drop", [0]]], [("hits", [1, 2]), None], []):
            for hand in ("wisher", "spoiler"):
                arguments = (("ws", [(1, 2)]), (hand, lines))
                ahead = copy.deepcopy(arguments)
                self.assertIs(is_whole(*arguments), False)
                with self.assertRaises((BadLine, NotWhole)):
                    plan_of(*arguments)
                self.assertEqual(arguments, ahead)

    def test_wrong_plans_stay_as_they_were(self):
        for plan in ([], [[1, [], True]], [(1, [[(), True]], True)], [(1, [([], True)], [])], [[[[]]]]):
            ahead = copy.deepcopy(plan)
            self.assertIs(is_plan(("ws", []), "wisher", plan), False)
            self.assertEqual(plan, ahead)

    def test_told_sets_are_no_list_that_was_handed_in(self):
        for sentence, paper in self.papers():
            told = sets_of(sentence, paper)
            self.assertIsNot(told, paper[1])
            self.assertIsNot(told, sentence[1])
        # Here the sets are as the clauses are, and a line the more is told of neither.
        clauses = [(1,), ()]
        lines = [("given", 0), ("given", 1)]
        told = sets_of(("w", clauses), ("spoiler", lines))
        clauses.append((-1,))
        lines.append(("given", 0))
        self.assertEqual(told, [(1,), ()])
        self.assertEqual(sets_of(("w", clauses), ("spoiler", lines)), [(1,), (), (1,)])

    def test_changing_told_sets_changes_nothing_told_later(self):
        for sentence, paper in self.papers():
            asked = copy.deepcopy((sentence, paper))
            told = sets_of(sentence, paper)
            ahead = list(told)
            plan = plan_of(sentence, paper)
            told.clear()
            told.append((1, 2))
            self.assertEqual((sentence, paper), asked)
            self.assertEqual(sets_of(sentence, paper), ahead)
            self.assertEqual(plan_of(sentence, paper), plan)
            self.assertIs(is_whole(sentence, paper), True)

    def test_changing_a_told_plan_changes_nothing_told_later(self):
        for sentence, paper in self.papers():
            asked = copy.deepcopy((sentence, paper))
            told = plan_of(sentence, paper)
            ahead = copy.deepcopy(told)
            for entry in told:
                entry[1].append(((), True))
                entry[1].reverse()
            told.append(None)
            self.assertEqual((sentence, paper), asked)
            self.assertEqual(plan_of(sentence, paper), ahead)

    def test_each_of_a_told_plans_lists_is_a_list_by_itself(self):
        for sentence, paper in self.papers():
            told = plan_of(sentence, paper)
            ahead = copy.deepcopy(told)
            for place, entry in enumerate(told):
                entry[1].append(None)
                self.assertEqual([other for other in told if other != entry], ahead[:place] + ahead[place + 1:])
                entry[1].pop()

    def test_changing_what_was_handed_in_changes_no_told_plan(self):
        for sentence, paper in self.papers():
            told = plan_of(sentence, paper)
            sets = sets_of(sentence, paper)
            ahead = copy.deepcopy((told, sets))
            sentence[1].clear()
            paper[1].clear()
            self.assertEqual((told, sets), ahead)
            with self.assertRaises(NotWhole):
                plan_of(sentence, paper)

    def test_a_told_plan_may_be_handed_in_again(self):
        for sentence, paper in self.papers():
            told = plan_of(sentence, paper)
            self.assertIs(is_plan(sentence, paper[0], told), True)
            told.append((1, [], False))
            self.assertIs(is_plan(sentence, paper[0], told), False)
            told.pop()
            self.assertIs(is_plan(sentence, paper[0], told), True)


if __name__ == "__main__":
    unittest.main()
