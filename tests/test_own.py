"""Point 1: nothing handed in is changed, what is told is the asker's own, and no clock, chance or file is used."""

import copy
import random
import unittest

from oathduel.errors import BadLine, BadStep, NoFilling, NoForm, NoHand, NotWhole
from oathduel.papers import is_whole, sets_of
from oathduel.plans import is_plan, plan_of
from oathduel.players import Planned, losing_play, played_by
from oathduel.rounds import game_winner, unrolled_game
from oathduel.search import Searcher, settled_paper
from oathduel.sentences import comes_true, hand_of, is_sentence, is_set, left_of, stands_by
from oathduel.shapes import clauses_of, form_losing_play, form_true, form_winner, is_form
from oathduel.shorter import joined_clauses, needed_lines, shortened_paper
from oathduel.steps import all_smaller, next_step, player_back, smaller_by
from oathduel.texts import read_paper, read_sentence, shown_paper, shown_sentence
from oathduel.walks import winner_from, winner_of, winning_choices
from tests.samples import (
    all_steps, drawn_form, drawn_game, drawn_sentences, other_of, plain_variables, sentence_form, whole_paper,
)

SENTENCE = ("wsws", [(1, 2), (-1, -2, 3), (), (3, -4), (1, 2)])

SPOILERS = (("ws", [(1, 2), (-1, -2)]), ("spoiler", [
    ("given", 0), ("drop", 0), ("given", 1), ("drop", 2), ("join", 1, 3, 1),
]))
WISHERS = (("sw", [(1, -2), (-1, 2)]), ("wisher", [
    ("hits", (1, 2)), ("drop", 0), ("hits", (-1, -2)), ("drop", 2), ("join", 1, 3, 1),
]))
NO_RULES = (("swsw", []), ("wisher", [("hits", ())]))


def questions():
    """Each function with something to ask it."""
    for sentence in [SENTENCE] + drawn_sentences(3, 30, (4,), 5):
        yield is_sentence, (sentence,)
        yield is_set, (sentence[1], 4)
        yield stands_by, (-2, [True, False])
        yield comes_true, (sentence, [True, False, False, True])
        yield hand_of, (sentence, 3)
        yield winner_of, (sentence,)
        for begun in ([], [True], [False, True], [True, True, False, False]):
            yield left_of, (sentence, begun)
            yield winner_from, (sentence, begun)
            yield winning_choices, (sentence, begun[:3])
        yield settled_paper, (sentence,)
    for sentence, paper in [SPOILERS, WISHERS, NO_RULES] + drawn_papers():
        yield sets_of, (sentence, paper)
        yield is_whole, (sentence, paper)
        yield plan_of, (sentence, paper)
        yield is_plan, (sentence, paper[0], plan_of(sentence, paper))
        yield needed_lines, (sentence, paper)
        yield shortened_paper, (sentence, paper)
        if paper[0] == "spoiler":
            yield joined_clauses, (sentence, paper)
        yield answers_by, (sentence, paper[0], plan_of(sentence, paper))
        others = [True for variable in plain_variables(sentence, other_of(paper[0]))]
        yield play_by_plan, (sentence, paper[0], plan_of(sentence, paper), others)
        yield search_in_pieces, (sentence, [1, 2, 0, 100])
        yield shown_paper, (paper,)
        yield read_paper, (shown_paper(paper),)
    yield from later_questions()


def later_questions():
    draw = random.Random(19)
    for sentence in [SENTENCE] + drawn_sentences(4, 30, (4,), 5):
        for step in all_steps(sentence)[::3]:
            yield smaller_by, (sentence, step)
            for hand in ("wisher", "spoiler"):
                plan = [(variable, [], True) for variable in plain_variables(sentence, hand)]
                yield answers_led_back, (sentence, step, hand, plan)
        yield next_step, (sentence,)
        yield all_smaller, (sentence,)
        yield shown_sentence, (sentence,)
        yield read_sentence, (shown_sentence(sentence),)
        nodes = sentence_form(sentence)
        for form in (nodes, drawn_form(draw, 4, 9)):
            yield is_form, (form, 4)
            yield form_true, (form, [True, False, True, False])
            yield clauses_of, (sentence[0], form)
            yield form_winner, (sentence[0], form)
            yield form_loses_by_plan, (sentence[0], form, "wisher")
        game = drawn_game(draw, 3, 2, 6)
        for rounds in (0, 1, 3):
            yield game_winner, (game, rounds)
            yield unrolled_game, (game, rounds)


def answers_led_back(sentence, step, hand, plan):
    player = player_back(sentence, step, hand, Planned(plan))
    begun = [False] * len(sentence[0])
    told = [player.answer(variable, begun) for variable in plain_variables(sentence, hand)]
    return (told, losing_play(sentence, hand, player))


def form_loses_by_plan(turns, nodes, hand):
    plan = [(variable, [], True) for variable in plain_variables((turns, []), hand)]
    return form_losing_play(turns, nodes, hand, Planned(plan))


def answers_by(sentence, hand, plan):
    player = Planned(plan)
    begun = [True] * len(sentence[0])
    return [player.answer(variable, begun) for variable in plain_variables(sentence, hand)]


def play_by_plan(sentence, hand, plan, others):
    player = Planned(plan)
    return (played_by(sentence, hand, player, others), losing_play(sentence, hand, player))


def search_in_pieces(sentence, portions):
    searcher = Searcher(sentence)
    return ([(searcher.go(many), searcher.learnt()) for many in portions], searcher.paper())


def drawn_papers():
    return [(sentence, whole_paper(sentence)) for sentence in drawn_sentences(17, 30, (4,), 5)]


class OwnTest(unittest.TestCase):
    def test_what_is_handed_in_stays_as_it_was(self):
        for function, arguments in questions():
            ahead = copy.deepcopy(arguments)
            function(*arguments)
            self.assertEqual(arguments, ahead, function.__name__)

    def test_the_same_question_has_the_same_answer(self):
        for function, arguments in questions():
            first = copy.deepcopy(function(*arguments))
            self.assertEqual(function(*arguments), first, function.__name__)

    def test_wrong_things_stay_as_they_were(self):
        for thing in ([1, 2], ["ws", [(2, 1)]], ("ws", [[2, 1], (1,), None])):
            ahead = copy.deepcopy(thing)
            self.assertIs(is_sentence(thing), False)
            self.assertIs(is_set(thing, 2), False)
            self.assertEqual(thing, ahead)

    def test_no_told_list_is_one_that_was_handed_in(self):
        for begun in ([], [True], [False, True, False, True]):
            sentence = ("wsws", [(1, 2), (3, -4)])
            told = left_of(sentence, begun)
            self.assertIsNot(told[1], sentence[1])
            ahead = copy.deepcopy(told)
            sentence[1].append((4,))
            begun.append(True)
            self.assertEqual(told, ahead)

    def test_changing_a_told_sentence_changes_nothing_told_later(self):
        for begun in ([], [False], [True, True, True, True]):
            sentence = copy.deepcopy(SENTENCE)
            told = left_of(sentence, begun)
            ahead = copy.deepcopy(told)
            told[1].clear()
            told[1].append((1,))
            self.assertEqual(sentence, SENTENCE)
            self.assertEqual(left_of(sentence, begun), ahead)

    def test_changing_told_choices_changes_nothing_told_later(self):
        for sentence in (("w", []), ("w", [()]), ("s", [()]), ("s", []), ("w", [(1,)])):
            told = winning_choices(sentence, [])
            ahead = list(told)
            told.append(None)
            told.reverse()
            self.assertEqual(winning_choices(sentence, []), ahead)


class PapersAndPlansTest(unittest.TestCase):
    def papers(self):
        return copy.deepcopy([SPOILERS, WISHERS, NO_RULES] + drawn_papers())

    def test_wrong_papers_stay_as_they_were(self):
        for lines in ([["given", 0]], [("given", 0), ["drop", [0]]], [("hits", [1, 2]), None], []):
            for hand in ("wisher", "spoiler"):
                arguments = (("ws", [(1, 2)]), (hand, lines))
                ahead = copy.deepcopy(arguments)
                self.assertIs(is_whole(*arguments), False)
                with self.assertRaises((BadLine, NotWhole)):
                    plan_of(*arguments)
                self.assertEqual(arguments, ahead)

    def test_wrong_plans_stay_as_they_were(self):
        for plan in ([], [[1, [], True]], [(1, [[(), True]], True)], [(1, [([], True)], [])], [[[[]]]]):
            ahead = copy.deepcopy(plan)
            self.assertIs(is_plan(("ws", []), "wisher", plan), False)
            self.assertEqual(plan, ahead)

    def test_told_sets_are_no_list_that_was_handed_in(self):
        for sentence, paper in self.papers():
            told = sets_of(sentence, paper)
            self.assertIsNot(told, paper[1])
            self.assertIsNot(told, sentence[1])
        # Here the sets are as the clauses are, and a line the more is told of neither.
        clauses = [(1,), ()]
        lines = [("given", 0), ("given", 1)]
        told = sets_of(("w", clauses), ("spoiler", lines))
        clauses.append((-1,))
        lines.append(("given", 0))
        self.assertEqual(told, [(1,), ()])
        self.assertEqual(sets_of(("w", clauses), ("spoiler", lines)), [(1,), (), (1,)])

    def test_changing_told_sets_changes_nothing_told_later(self):
        for sentence, paper in self.papers():
            asked = copy.deepcopy((sentence, paper))
            told = sets_of(sentence, paper)
            ahead = list(told)
            plan = plan_of(sentence, paper)
            told.clear()
            told.append((1, 2))
            self.assertEqual((sentence, paper), asked)
            self.assertEqual(sets_of(sentence, paper), ahead)
            self.assertEqual(plan_of(sentence, paper), plan)
            self.assertIs(is_whole(sentence, paper), True)

    def test_changing_a_told_plan_changes_nothing_told_later(self):
        for sentence, paper in self.papers():
            asked = copy.deepcopy((sentence, paper))
            told = plan_of(sentence, paper)
            ahead = copy.deepcopy(told)
            for entry in told:
                entry[1].append(((), True))
                entry[1].reverse()
            told.append(None)
            self.assertEqual((sentence, paper), asked)
            self.assertEqual(plan_of(sentence, paper), ahead)

    def test_each_of_a_told_plans_lists_is_a_list_by_itself(self):
        for sentence, paper in self.papers():
            told = plan_of(sentence, paper)
            ahead = copy.deepcopy(told)
            for place, entry in enumerate(told):
                entry[1].append(None)
                self.assertEqual([other for other in told if other != entry], ahead[:place] + ahead[place + 1:])
                entry[1].pop()

    def test_changing_what_was_handed_in_changes_no_told_plan(self):
        for sentence, paper in self.papers():
            told = plan_of(sentence, paper)
            sets = sets_of(sentence, paper)
            ahead = copy.deepcopy((told, sets))
            sentence[1].clear()
            paper[1].clear()
            self.assertEqual((told, sets), ahead)
            with self.assertRaises(NotWhole):
                plan_of(sentence, paper)

    def test_a_told_plan_may_be_handed_in_again(self):
        for sentence, paper in self.papers():
            told = plan_of(sentence, paper)
            self.assertIs(is_plan(sentence, paper[0], told), True)
            told.append((1, [], False))
            self.assertIs(is_plan(sentence, paper[0], told), False)
            told.pop()
            self.assertIs(is_plan(sentence, paper[0], told), True)


class SearchersTest(unittest.TestCase):
    def sentences(self):
        return copy.deepcopy([SENTENCE, SPOILERS[0], WISHERS[0], NO_RULES[0]] + drawn_sentences(18, 30, (4, 5), 9))

    def test_changing_the_sentence_behind_the_making_changes_nothing(self):
        for sentence in self.sentences():
            still = Searcher(copy.deepcopy(sentence))
            searcher = Searcher(sentence)
            sentence[1].append(())
            sentence[1].reverse()
            for many in (0, 1, 1, 3, 100):
                self.assertIs(searcher.go(many), still.go(many))
                self.assertEqual(searcher.learnt(), still.learnt())
                sentence[1].clear()
            self.assertEqual(searcher.paper(), still.paper())

    def test_changing_what_was_learnt_changes_nothing_told_later(self):
        for sentence in self.sentences():
            still = Searcher(sentence)
            searcher = Searcher(sentence)
            for many in (0, 1, 1, 3, 100):
                self.assertIs(searcher.go(many), still.go(many))
                for told in searcher.learnt():
                    told[1].append(("given", 0))
                    told[1].reverse()
                self.assertEqual(searcher.learnt(), still.learnt())
            self.assertEqual(searcher.paper(), still.paper())

    def test_what_was_learnt_stays_as_it_was_told(self):
        for sentence in self.sentences():
            searcher = Searcher(sentence)
            searcher.go(2)
            told = searcher.learnt()
            ahead = copy.deepcopy(told)
            searcher.go(100)
            self.assertEqual(told, ahead)

    def test_changing_a_told_paper_changes_nothing_told_later(self):
        for sentence in self.sentences():
            searcher = Searcher(sentence)
            searcher.go(100)
            for paper in (searcher.paper, lambda: settled_paper(sentence)):
                told = paper()
                ahead = copy.deepcopy(told)
                learnt = searcher.learnt()
                told[1].append(None)
                told[1].reverse()
                self.assertEqual(paper(), ahead)
                self.assertEqual(searcher.learnt(), learnt)
                self.assertIs(searcher.go(100), True)
                self.assertEqual(paper(), ahead)

    def test_no_told_list_is_one_that_was_handed_in_or_told_ahead(self):
        for sentence in self.sentences():
            searcher = Searcher(sentence)
            searcher.go(100)
            lists = [sentence[1]] + [told[1] for told in searcher.learnt() + searcher.learnt()]
            lists += [searcher.paper()[1], searcher.paper()[1], settled_paper(sentence)[1]]
            self.assertEqual(len({id(told) for told in lists}), len(lists))


class ShorterTest(unittest.TestCase):
    def papers(self):
        return copy.deepcopy([SPOILERS, WISHERS, NO_RULES] + drawn_papers())

    def test_no_told_list_is_one_that_was_handed_in(self):
        for sentence, paper in self.papers():
            told = [needed_lines(sentence, paper), shortened_paper(sentence, paper)[1]]
            if paper[0] == "spoiler":
                told += [joined_clauses(sentence, (paper[0], lines))[1] for lines in ([], paper[1])]
            for part in told:
                self.assertIsNot(part, paper[1])
                self.assertIsNot(part, sentence[1])

    def test_changing_a_told_list_changes_nothing_told_later(self):
        for sentence, paper in self.papers():
            asked = copy.deepcopy((sentence, paper))
            questions = [lambda: needed_lines(sentence, paper), lambda: shortened_paper(sentence, paper)[1]]
            if paper[0] == "spoiler":
                questions.append(lambda: joined_clauses(sentence, paper)[1])
            for question in questions:
                told = question()
                ahead = list(told)
                told.append(None)
                told.reverse()
                self.assertEqual((sentence, paper), asked)
                self.assertEqual(question(), ahead)

    def test_changing_what_was_handed_in_changes_nothing_told(self):
        for sentence, paper in self.papers():
            told = [needed_lines(sentence, paper), shortened_paper(sentence, paper)]
            if paper[0] == "spoiler":
                told.append(joined_clauses(sentence, paper))
            ahead = copy.deepcopy(told)
            sentence[1].clear()
            paper[1].clear()
            self.assertEqual(told, ahead)

    def test_what_is_refused_stays_as_it_was(self):
        for lines in ([["given", 0]], [("given", 0), ["drop", [0]]], [("hits", [1, 2]), None], []):
            for hand in ("wisher", "spoiler"):
                arguments = (("ws", [(1, 2)]), (hand, lines))
                ahead = copy.deepcopy(arguments)
                for question in (needed_lines, shortened_paper):
                    with self.assertRaises((BadLine, NotWhole)):
                        question(*arguments)
                if lines or hand == "wisher":
                    with self.assertRaises((BadLine, NoHand)):
                        joined_clauses(*arguments)
                self.assertEqual(arguments, ahead)
        others = [True, False, True]
        with self.assertRaises(NoFilling):
            played_by(("ws", []), "wisher", Planned([(1, [], True)]), others)
        self.assertEqual(others, [True, False, True])


def lists_in(thing):
    """All lists that a thing is or holds."""
    if not isinstance(thing, (list, tuple)):
        return []
    return [thing] * isinstance(thing, list) + [part for inner in thing for part in lists_in(inner)]


class LaterStagesTest(unittest.TestCase):
    def test_no_told_list_is_one_that_was_handed_in(self):
        for function, arguments in later_questions():
            handed = lists_in(arguments)
            for part in lists_in(function(*arguments)):
                self.assertFalse(any(part is other for other in handed), function.__name__)

    def test_changing_what_is_told_changes_nothing_told_later(self):
        for function, arguments in later_questions():
            asked = copy.deepcopy(arguments)
            told = function(*arguments)
            ahead = copy.deepcopy(told)
            for part in lists_in(told):
                part.append(None)
                part.reverse()
            self.assertEqual(arguments, asked, function.__name__)
            self.assertEqual(function(*arguments), ahead, function.__name__)

    def test_changing_what_was_handed_in_changes_nothing_told(self):
        for function, asked in later_questions():
            arguments = copy.deepcopy(asked)
            told = function(*arguments)
            ahead = copy.deepcopy(told)
            for part in lists_in(arguments):
                part.clear()
            self.assertEqual(told, ahead, function.__name__)

    def test_what_is_refused_stays_as_it_was(self):
        for step in (("drop", [0]), ("within", 0, [1]), ([], 0), ("pure", [[1]])):
            arguments = (("ws", [(1, 2)]), step)
            ahead = copy.deepcopy(arguments)
            with self.assertRaises(BadStep):
                smaller_by(*arguments)
            self.assertEqual(arguments, ahead)
        for nodes in ([["yes"]], [("yes",), ("not", [0])], [[]], (("yes",),)):
            ahead = copy.deepcopy(nodes)
            for question in (clauses_of, form_winner):
                with self.assertRaises(NoForm):
                    question("ws", nodes)
            for question in (game_winner, unrolled_game):
                with self.assertRaises(NoForm):
                    question((1, [True], "w", [nodes], nodes), 1)
            self.assertEqual(nodes, ahead)


if __name__ == "__main__":
    unittest.main()
