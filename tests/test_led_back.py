"""Point 26: players of a smaller sentence, led back to the sentence ahead of the step."""

import random
import unittest

from oathduel.errors import NoVariable
from oathduel.players import Planned, Player, losing_play, played_by
from oathduel.plans import plan_of
from oathduel.search import settled_paper
from oathduel.steps import player_back, smaller_by
from tests.samples import (
    MANY_FIGURES, TOO_MANY_TO_WRITE, all_fillings, all_steps, drawn_plan, drawn_sentences, other_of, plain_drop,
    plain_hand, plain_variables, plain_winner, plainly_true, small_sentences,
)

HANDS = ("wisher", "spoiler")


def stands(literal, begun):
    return begun[abs(literal) - 1] is (literal > 0)


def own_value(sentence, step, hand, variable, begun):
    """The value that is not left to the inner player, or None."""
    clause = sentence[1][step[1]] if step[0] in ("drop", "unit", "blocked") else ()
    if step[0] == "drop" and hand == "spoiler":
        left = plain_drop(sentence, "spoiler", clause)
        out = {abs(literal): literal < 0 for literal in clause if literal not in left}
        return out[variable] if variable in out and not any(stands(literal, begun) for literal in left) else None
    if step[0] == "pure" and plain_hand(sentence, abs(step[1])) == hand and abs(step[1]) == variable:
        return step[1] > 0 if hand == "wisher" else step[1] < 0
    if step[0] == "unit" and hand == "wisher" and abs(clause[0]) == variable:
        return clause[0] > 0
    if step[0] == "blocked" and hand == "wisher" and abs(step[2]) == variable:
        lesser = [literal for literal in clause if abs(literal) < variable]
        return step[2] > 0 if not any(stands(literal, begun) for literal in lesser) else None
    return None


def plain_led(sentence, step, hand, inner):
    """What a player led back answers, in the words of the document; inner is asked as a player's answer is."""
    own = plain_variables(sentence, hand)

    def answer(variable, begun):
        filling = []
        for lesser in range(1, variable):
            filling.append(inner(lesser, list(filling)) if lesser in own else begun[lesser - 1])
        value = own_value(sentence, step, hand, variable, begun)
        return inner(variable, filling) if value is None else value

    return answer


def always(sentence, hand, value):
    return Planned([(variable, [], value) for variable in plain_variables(sentence, hand)])


def led_chains(seed, sentences, deep):
    """Sentences with a drawn plan led back through steps: (sentence, hand, the player, the same in plain words)."""
    draw = random.Random(seed)
    for sentence in sentences:
        chain = [sentence]
        steps = []
        while len(steps) < deep and all_steps(chain[-1]):
            steps.append(draw.choice(all_steps(chain[-1])))
            chain.append(smaller_by(chain[-1], steps[-1]))
        for hand in HANDS:
            player = Planned(drawn_plan(draw, sentence, hand))
            plain = player.answer
            for ahead, step in zip(chain[len(steps) - 1::-1], steps[::-1]):
                player = player_back(ahead, step, hand, player)
                plain = plain_led(ahead, step, hand, plain)
            if steps:
                yield sentence, hand, player, plain


class KindsTest(unittest.TestCase):
    def assert_answers(self, sentence, step, hand, variable, answers):
        """By an inner player that always answers False, and by one that always answers True."""
        for inner in (False, True):
            player = player_back(sentence, step, hand, always(sentence, hand, inner))
            self.assertIsInstance(player, Player)
            for begun, value in answers:
                expected = inner if value is None else value
                self.assertIs(player.answer(variable, begun), expected, (begun, inner))
                # What is filled in behind changes nothing.
                self.assertIs(player.answer(variable, begun + [True, False]), expected)
                self.assertIs(player.answer(variable, begun + [False, True]), expected)

    def test_unit_for_the_wisher(self):
        for literal in (3, -3):
            sentence = ("wsw", [(literal,), (1, 2)])
            answers = [(begun, literal > 0) for begun in all_fillings(2)]
            self.assert_answers(sentence, ("unit", 0), "wisher", 3, answers)
            self.assert_answers(sentence, ("unit", 0), "wisher", 1, [([], None)])

    def test_unit_for_the_spoiler(self):
        self.assert_answers(("wsw", [(1,)]), ("unit", 0), "spoiler", 2, [([False], None), ([True], None)])

    def test_pure_of_the_wishers(self):
        for literal in (2, -2):
            sentence = ("wwsw", [(1, literal), (literal, 3)])
            self.assert_answers(sentence, ("pure", literal), "wisher", 2, [([x], literal > 0) for x in (True, False)])
            self.assert_answers(sentence, ("pure", literal), "wisher", 1, [([], None)])
            for begun in all_fillings(3):
                self.assert_answers(sentence, ("pure", literal), "wisher", 4, [(begun, None)])
            for begun in all_fillings(2):
                self.assert_answers(sentence, ("pure", literal), "spoiler", 3, [(begun, None)])

    def test_pure_of_the_spoilers(self):
        for literal in (2, -2):
            sentence = ("wssw", [(1, literal), (literal, 4)])
            self.assert_answers(sentence, ("pure", literal), "spoiler", 2, [([x], literal < 0) for x in (True, False)])
            for begun in all_fillings(2):
                self.assert_answers(sentence, ("pure", literal), "spoiler", 3, [(begun, None)])
            for begun in all_fillings(3):
                self.assert_answers(sentence, ("pure", literal), "wisher", 4, [(begun, None)])
            self.assert_answers(sentence, ("pure", literal), "wisher", 1, [([], None)])

    def test_within_for_either_hand(self):
        sentence = ("wsws", [(1, 2, 3), (1, 3)])
        for hand in HANDS:
            for variable in plain_variables(sentence, hand):
                answers = [(begun, None) for begun in all_fillings(variable - 1)]
                self.assert_answers(sentence, ("within", 0, 1), hand, variable, answers)

    def test_blocked_for_the_wisher(self):
        sentence = ("swsww", [(1, -3, 4, 5), (-1, -4), (3, -4)])
        answers = [(begun, True if not begun[0] and begun[2] else None) for begun in all_fillings(3)]
        self.assert_answers(sentence, ("blocked", 0, 4), "wisher", 4, answers)
        # A literal with a greater variable does not count, and of another variable the inner one answers.
        self.assert_answers(sentence, ("blocked", 0, 4), "wisher", 2, [([False], None), ([True], None)])
        self.assert_answers(sentence, ("blocked", 0, 4), "wisher", 5, [(x, None) for x in all_fillings(4)])
        sentence = ("sw", [(1, -2), (-1, 2)])
        self.assert_answers(sentence, ("blocked", 0, -2), "wisher", 2, [([False], False), ([True], None)])

    def test_blocked_with_no_lesser_literal(self):
        self.assert_answers(("ws", [(1, 2)]), ("blocked", 0, 1), "wisher", 1, [([], True)])
        self.assert_answers(("sw", [(-2,), (1,)]), ("blocked", 0, -2), "wisher", 2, [([False], False), ([True], False)])

    def test_blocked_for_the_spoiler(self):
        sentence = ("sws", [(1, 2), (-1, -2)])
        self.assert_answers(sentence, ("blocked", 0, 2), "spoiler", 1, [([], None)])
        self.assert_answers(sentence, ("blocked", 0, 2), "spoiler", 3, [(x, None) for x in all_fillings(2)])

    def test_drop_for_the_spoiler(self):
        sentence = ("swsss", [(1, -2, 3, -4), (5,)])
        for variable, value in ((3, False), (4, True)):
            answers = [
                (begun, value if not begun[0] and begun[1] else None) for begun in all_fillings(variable - 1)
            ]
            self.assert_answers(sentence, ("drop", 0), "spoiler", variable, answers)
        # What stays in the clause and what was never in it is left to the inner player.
        self.assert_answers(sentence, ("drop", 0), "spoiler", 1, [([], None)])
        self.assert_answers(sentence, ("drop", 0), "spoiler", 5, [(begun, None) for begun in all_fillings(4)])

    def test_drop_of_the_spoilers_alone(self):
        sentence = ("wss", [(2, -3)])
        self.assert_answers(sentence, ("drop", 0), "spoiler", 2, [([False], False), ([True], False)])
        self.assert_answers(sentence, ("drop", 0), "spoiler", 3, [(begun, True) for begun in all_fillings(2)])

    def test_drop_that_takes_nothing_out(self):
        sentence = ("sw", [(1, 2), ()])
        for place in (0, 1):
            self.assert_answers(sentence, ("drop", place), "spoiler", 1, [([], None)])
            self.assert_answers(sentence, ("drop", place), "wisher", 2, [([False], None), ([True], None)])

    def test_drop_for_the_wisher(self):
        sentence = ("wsw", [(1, 2)])
        self.assert_answers(sentence, ("drop", 0), "wisher", 1, [([], None)])
        self.assert_answers(sentence, ("drop", 0), "wisher", 3, [(begun, None) for begun in all_fillings(2)])


class InnerFillingTest(unittest.TestCase):
    def test_the_inner_player_is_asked_by_what_it_answered_itself(self):
        # The inner one would fill in no for 1, and goes by that for 2 though yes is begun.
        inner = Planned([(1, [], False), (2, [((1,), True)], False)])
        player = player_back(("ww", [(1,)]), ("unit", 0), "wisher", inner)
        self.assertIs(player.answer(1, []), True)
        self.assertIs(player.answer(2, [True]), False)
        self.assertIs(player.answer(2, [False]), False)
        inner = Planned([(1, [], True), (2, [((1,), True)], False)])
        player = player_back(("ww", [(-1,)]), ("unit", 0), "wisher", inner)
        self.assertIs(player.answer(2, [False]), True)

    def test_the_other_hands_values_are_those_begun(self):
        inner = Planned([(3, [((1, -2), True)], False)])
        player = player_back(("ssw", [(1, 2), (1,)]), ("within", 0, 1), "wisher", inner)
        for begun in all_fillings(2):
            self.assertIs(player.answer(3, begun), begun == [True, False])

    def test_whether_something_stands_is_asked_by_what_is_begun(self):
        # The inner one fills in no for 1, so by the inner filling the clause is left open; by what is begun it is not.
        inner = Planned([(1, [], False), (2, [], False)])
        player = player_back(("ww", [(1, 2), (-1, -2)]), ("blocked", 0, 2), "wisher", inner)
        self.assertIs(player.answer(2, [True]), False)
        self.assertIs(player.answer(2, [False]), True)
        inner = Planned([(1, [], False), (3, [], True)])
        player = player_back(("sws", [(1, 2, 3)]), ("drop", 0), "spoiler", inner)
        self.assertIs(player.answer(3, [True, False]), True)
        self.assertIs(player.answer(3, [False, False]), False)

    def test_against_the_words_one_deep(self):
        seen = {}
        draw = random.Random(40)
        for sentence in small_sentences()[::4] + drawn_sentences(41, 60, (4, 5), 6):
            for step in all_steps(sentence):
                for hand in HANDS:
                    inner = Planned(drawn_plan(draw, sentence, hand))
                    player = player_back(sentence, step, hand, inner)
                    plain = plain_led(sentence, step, hand, inner.answer)
                    for variable in plain_variables(sentence, hand):
                        for begun in all_fillings(variable - 1):
                            told = player.answer(variable, begun)
                            self.assertIs(told, plain(variable, begun), (sentence, step, hand, variable, begun))
                            other = told is not inner.answer(variable, begun)
                            seen[step[0], hand, other] = seen.get((step[0], hand, other), 0) + 1
        for key in [(word, "wisher", True) for word in ("unit", "pure", "blocked")] + [
            (word, "spoiler", True) for word in ("drop", "pure")
        ] + [(word, hand, False) for word in ("drop", "unit", "pure", "within", "blocked") for hand in HANDS]:
            self.assertGreater(seen[key], 50, key)

    def test_against_the_words_up_to_six_deep(self):
        for deep in (2, 3, 6):
            for sentence, hand, player, plain in led_chains(42 + deep, drawn_sentences(deep, 60, (4, 5), 9), deep):
                for variable in plain_variables(sentence, hand):
                    for begun in all_fillings(variable - 1):
                        self.assertIs(player.answer(variable, begun), plain(variable, begun))

    def test_asked_alike_it_answers_alike(self):
        for sentence, hand, player, plain in led_chains(49, drawn_sentences(50, 20, (4, 5), 6), 3):
            asked = [(v, begun) for v in plain_variables(sentence, hand) for begun in all_fillings(v - 1)]
            told = [player.answer(*question) for question in asked]
            self.assertEqual([player.answer(*question) for question in asked[::-1]], told[::-1])
            self.assertEqual({type(value) for value in told} - {bool}, set())

    def test_what_is_begun_stays_as_it_was(self):
        for sentence, hand, player, plain in led_chains(51, drawn_sentences(52, 20, (4, 5), 6), 3):
            for variable in plain_variables(sentence, hand):
                for begun in all_fillings(variable - 1) + [[True] * 8]:
                    ahead = list(begun)
                    player.answer(variable, begun)
                    self.assertEqual(begun, ahead)

    def test_one_player_may_be_led_back_by_several_steps(self):
        sentence = ("ww", [(1,), (2,), (1, 2)])
        inner = always(sentence, "wisher", False)
        first = player_back(sentence, ("unit", 0), "wisher", inner)
        second = player_back(sentence, ("unit", 1), "wisher", inner)
        both = player_back(sentence, ("unit", 1), "wisher", first)
        for player, told in ((first, [True, False]), (second, [False, True]), (both, [True, True]),
                             (inner, [False, False]), (first, [True, False])):
            self.assertEqual([player.answer(1, []), player.answer(2, [False])], told)

    def test_changing_the_sentence_changes_no_player(self):
        for step in (("unit", 0), ("drop", 1), ("blocked", 3, 3), ("within", 1, 0), ("pure", -3)):
            for hand in HANDS:
                sentence = ("wsws", [(1,), (1, 4), (-2, -3), (2, 3)])
                if step[0] == "pure":
                    sentence[1].pop()
                inner = always(sentence, hand, step[0] == "within")
                player = player_back(sentence, step, hand, inner)
                variables = plain_variables(sentence, hand)
                told = [player.answer(variable, [False] * 3) for variable in variables]
                sentence[1].reverse()
                self.assertEqual([player.answer(variable, [False] * 3) for variable in variables], told)
                sentence[1].clear()
                self.assertEqual([player.answer(variable, [False] * 3) for variable in variables], told)


class RefusalsTest(unittest.TestCase):
    def test_variables_that_the_plan_does_not_have(self):
        sentence = ("wsws", [(1,), (1, 4), (-1, 2)])
        for hand in HANDS:
            player = always(sentence, hand, True)
            for deep in range(3):
                player = player_back(sentence, ("drop", 1), hand, player)
                for variable in plain_variables(sentence, other_of(hand)) + [
                    0, -1, -4, 5, 40, MANY_FIGURES, -MANY_FIGURES, TOO_MANY_TO_WRITE, -TOO_MANY_TO_WRITE,
                ]:
                    for begun in ([], [True], [False] * 3, [True] * 50, None):
                        with self.assertRaises(NoVariable) as taken:
                            player.answer(variable, begun)
                        self.assertIs(type(taken.exception), NoVariable)


class WinsTest(unittest.TestCase):
    def assert_wins(self, sentence, hand, player):
        self.assertIsNone(losing_play(sentence, hand, player))
        for others in all_fillings(len(plain_variables(sentence, other_of(hand)))):
            filling = played_by(sentence, hand, player, others)
            self.assertIs(plainly_true(sentence, filling), hand == "wisher")

    def test_a_player_that_wins_the_smaller_sentence_wins_the_sentence(self):
        seen = {}
        for sentence in small_sentences()[::2] + drawn_sentences(53, 150, (4, 5, 6), 9):
            hand = plain_winner(sentence, [])
            for step in all_steps(sentence):
                smaller = smaller_by(sentence, step)
                inner = Planned(plan_of(smaller, settled_paper(smaller)))
                self.assertIsNone(losing_play(smaller, hand, inner))
                player = player_back(sentence, step, hand, inner)
                self.assertIsNone(losing_play(sentence, hand, player), (sentence, step))
                # That the inner one does not win here by itself shows that there was something to lead back.
                alone = losing_play(sentence, hand, inner) is None
                seen[step[0], hand, alone] = seen.get((step[0], hand, alone), 0) + 1
        for word, hand in (("drop", "spoiler"), ("unit", "wisher"), ("pure", "wisher"), ("pure", "spoiler"),
                           ("blocked", "wisher")):
            self.assertGreater(seen.get((word, hand, False), 0), 15, (word, hand))

    def test_six_behind_one_another(self):
        draw = random.Random(54)
        seen = {"wisher": 0, "spoiler": 0}
        for sentence in drawn_sentences(55, 120, (5, 6, 7), 12):
            chain = [sentence]
            steps = []
            while len(steps) < 6 and all_steps(chain[-1]):
                steps.append(draw.choice(all_steps(chain[-1])))
                chain.append(smaller_by(chain[-1], steps[-1]))
            hand = plain_winner(sentence, [])
            player = Planned(plan_of(chain[-1], settled_paper(chain[-1])))
            for ahead, step in zip(chain[-2::-1], steps[::-1]):
                player = player_back(ahead, step, hand, player)
                self.assertIsNone(losing_play(ahead, hand, player))
            self.assert_wins(sentence, hand, player)
            seen[hand] += len(steps) == 6
        self.assertGreater(min(seen.values()), 10)

    def test_a_player_that_loses_may_go_on_losing(self):
        sentence = ("sw", [(1, 2), (-1, -2), (1, 2)])
        player = player_back(sentence, ("within", 2, 0), "wisher", Planned([(2, [], False)]))
        self.assertEqual(losing_play(sentence, "wisher", player), [False])
        player = player_back(sentence, ("within", 2, 0), "wisher", Planned([(2, [], True)]))
        self.assertEqual(losing_play(sentence, "wisher", player), [True])

    def test_forty_variables_six_behind_one_another(self):
        # Each player asking the next one about each lesser variable anew would go on for hours here.
        sentence = ("w" * 40, [(v,) for v in range(1, 41)])
        for begin in (1, 35):
            player = always(sentence, "wisher", False)
            for variable in range(begin, begin + 6):
                player = player_back(sentence, ("unit", variable - 1), "wisher", player)
            told = played_by(sentence, "wisher", player, [])
            self.assertEqual(told, [begin <= variable < begin + 6 for variable in range(1, 41)])


if __name__ == "__main__":
    unittest.main()
