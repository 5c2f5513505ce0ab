"""Point 17: players, and those that go by a plan."""

import random
import unittest

from oathduel.errors import NoVariable
from oathduel.players import Planned, Player
from tests.samples import (
    MANY_FIGURES, TOO_MANY_TO_WRITE, all_fillings, drawn_plan, drawn_sentences, other_of, plain_variables,
)


def plain_answer(plan, variable, begun):
    for entry in plan:
        if entry[0] == variable:
            for literals, value in entry[1]:
                if all(begun[abs(literal) - 1] is (literal > 0) for literal in literals):
                    return value
            return entry[2]
    raise AssertionError("there is no such variable")


def drawn_players():
    draw = random.Random(71)
    for sentence in drawn_sentences(29, 60, (1, 3, 5), 4):
        for hand in ("wisher", "spoiler"):
            yield sentence, hand, drawn_plan(draw, sentence, hand)


class AnswerTest(unittest.TestCase):
    def test_planned_is_a_player(self):
        self.assertTrue(issubclass(Planned, Player))
        self.assertIsNot(Planned, Player)
        self.assertIsInstance(Planned([]), Player)

    def test_otherwise_where_there_is_no_rule(self):
        for otherwise in (False, True):
            player = Planned([(1, [], otherwise), (3, [], not otherwise)])
            self.assertIs(player.answer(1, []), otherwise)
            self.assertIs(player.answer(3, [True, False]), not otherwise)

    def test_otherwise_where_no_rule_stands(self):
        for otherwise in (False, True):
            player = Planned([(3, [((1,), not otherwise), ((-1, 2), not otherwise)], otherwise)])
            self.assertIs(player.answer(3, [False, False]), otherwise)

    def test_a_later_rule_that_stands_alone(self):
        for value in (False, True):
            rules = [((1, 2), not value), ((1, -2), not value), ((-1, 2), value), ((-1, -2), not value)]
            player = Planned([(3, rules, not value)])
            self.assertIs(player.answer(3, [False, True]), value)

    def test_the_first_of_two_rules_that_stand(self):
        for value in (False, True):
            player = Planned([(3, [((2,), not value), ((1,), value), ((1, -2), not value)], not value)])
            self.assertIs(player.answer(3, [True, False]), value)
            player = Planned([(3, [((), value), ((1, -2), not value)], not value)])
            self.assertIs(player.answer(3, [True, False]), value)

    def test_all_literals_of_a_rule_must_stand(self):
        player = Planned([(4, [((1, -2, 3), True)], False)])
        for begun in all_fillings(3):
            self.assertIs(player.answer(4, begun), begun == [True, False, True])

    def test_the_empty_set_always_stands(self):
        player = Planned([(1, [((), True)], False), (2, [((), True)], False)])
        self.assertIs(player.answer(1, []), True)
        self.assertIs(player.answer(2, [False]), True)

    def test_each_variable_has_rules_of_its_own(self):
        player = Planned([(1, [], True), (2, [((1,), False)], True), (3, [((1,), True), ((2,), False)], False)])
        self.assertEqual([player.answer(1, []), player.answer(2, [True]), player.answer(3, [True, True])],
                         [True, False, True])
        self.assertEqual([player.answer(2, [False]), player.answer(3, [False, True])], [True, False])

    def test_the_rules_go_by_what_is_begun_and_not_by_what_was_answered(self):
        player = Planned([(1, [], True), (2, [((1,), True)], False)])
        self.assertIs(player.answer(1, []), True)
        self.assertIs(player.answer(2, [False]), False)
        self.assertIs(player.answer(2, [True]), True)

    def test_against_a_plain_walk_by_what_is_ahead_and_by_more(self):
        for sentence, hand, plan in drawn_players():
            player = Planned(plan)
            for variable in plain_variables(sentence, hand):
                for begun in all_fillings(variable - 1):
                    told = plain_answer(plan, variable, begun)
                    for more in ([], [False], [True], [True, False, True], [not told] * 9):
                        self.assertIs(player.answer(variable, begun + more), told, (plan, variable, begun, more))

    def test_a_variable_of_many_figures_that_is_there(self):
        # Rules over variables that are not filled in are none that stand.
        player = Planned([(1, [], False), (MANY_FIGURES, [((2,), False), ((1,), True)], False)])
        self.assertIs(player.answer(MANY_FIGURES, [True]), True)
        self.assertIs(player.answer(MANY_FIGURES, [False]), False)


class AlikeTest(unittest.TestCase):
    def test_asked_alike_it_answers_alike(self):
        for sentence, hand, plan in drawn_players():
            player = Planned(plan)
            questions = [(variable, begun) for variable in plain_variables(sentence, hand)
                         for begun in all_fillings(variable - 1)]
            told = [player.answer(*question) for question in questions]
            behind = [player.answer(*question) for question in reversed(questions)]
            self.assertEqual(behind, told[::-1])
            self.assertEqual([Planned(plan).answer(*question) for question in questions], told)

    def test_what_is_begun_stays_as_it_was(self):
        player = Planned([(3, [((1,), True)], False)])
        for begun in all_fillings(2) + all_fillings(4):
            ahead = list(begun)
            player.answer(3, begun)
            self.assertEqual(begun, ahead)

    def test_players_know_nothing_of_each_other(self):
        first = Planned([(2, [((1,), True)], False)])
        second = Planned([(1, [], True), (2, [((1,), False)], True)])
        for begun in ([False], [True], [False]):
            self.assertIs(first.answer(2, begun), begun[0])
            self.assertIs(second.answer(2, begun), not begun[0])
        with self.assertRaises(NoVariable):
            first.answer(1, [])
        self.assertIs(second.answer(1, []), True)

    def test_a_plan_changed_behind_the_making_changes_no_answer(self):
        rules = [((1,), True)]
        plan = [(2, rules, False)]
        player = Planned(plan)
        rules.insert(0, ((), False))
        self.assertIs(player.answer(2, [True]), True)
        rules.clear()
        self.assertIs(player.answer(2, [True]), True)
        plan.append((3, [], True))
        with self.assertRaises(NoVariable):
            player.answer(3, [True, True])
        plan.clear()
        self.assertIs(player.answer(2, [True]), True)
        self.assertIs(player.answer(2, [False]), False)

    def test_the_making_and_the_asking_change_no_plan(self):
        for sentence, hand, plan in drawn_players():
            ahead = [(entry[0], list(entry[1]), entry[2]) for entry in plan]
            player = Planned(plan)
            for variable in plain_variables(sentence, hand):
                player.answer(variable, [True] * variable)
            self.assertEqual(plan, ahead)


class RefusalsTest(unittest.TestCase):
    def assert_no_variable(self, player, variable):
        for begun in ([], [True], [False] * 3, [True] * 50):
            with self.assertRaises(NoVariable) as taken:
                player.answer(variable, begun)
            self.assertIs(type(taken.exception), NoVariable)

    def test_numbers_that_are_no_variables(self):
        for player in (Planned([(1, [], True), (3, [((), True)], True)]), Planned([])):
            for variable in (0, -1, -3, 2, 4, 40, 41, MANY_FIGURES, -MANY_FIGURES, TOO_MANY_TO_WRITE,
                             -TOO_MANY_TO_WRITE):
                self.assert_no_variable(player, variable)

    def test_the_other_hands_variables(self):
        for sentence, hand, plan in drawn_players():
            player = Planned(plan)
            for variable in plain_variables(sentence, other_of(hand)):
                self.assert_no_variable(player, variable)

    def test_refused_whatever_is_begun(self):
        for begun in (None, 0, "", (), [None], [[]], "ws", MANY_FIGURES):
            with self.assertRaises(NoVariable):
                Planned([(1, [((), True)], True)]).answer(2, begun)

    def test_a_refusal_changes_nothing(self):
        player = Planned([(2, [((1,), True)], False)])
        self.assert_no_variable(player, 1)
        self.assertIs(player.answer(2, [True]), True)
        self.assert_no_variable(player, 1)


if __name__ == "__main__":
    unittest.main()
