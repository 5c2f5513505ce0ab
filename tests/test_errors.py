"""Point 6: every refusal is a class of its own under DuelError."""

import unittest

from oathduel import errors
from oathduel.errors import DuelError
from oathduel.papers import sets_of
from oathduel.plans import plan_of
from oathduel.players import Planned, played_by
from oathduel.rounds import game_winner, unrolled_game
from oathduel.search import Searcher
from oathduel.sentences import hand_of, stands_by
from oathduel.shapes import clauses_of, form_losing_play, form_winner
from oathduel.shorter import joined_clauses, needed_lines, shortened_paper
from oathduel.steps import player_back, smaller_by
from oathduel.texts import read_paper, read_sentence
from oathduel.walks import winning_choices

NAMES = ("NoVariable", "NoFilling", "BadLine", "NotWhole", "NoHand", "BadStep", "NoForm", "TooMany", "NoText")


def refusals():
    return [getattr(errors, name) for name in NAMES]


class ErrorsTest(unittest.TestCase):
    def test_duel_error_is_a_value_error(self):
        self.assertTrue(issubclass(DuelError, ValueError))
        self.assertIsNot(DuelError, ValueError)

    def test_each_refusal_stands_under_duel_error(self):
        for refusal in refusals():
            self.assertTrue(issubclass(refusal, DuelError), refusal)
            self.assertIsNot(refusal, DuelError)

    def test_no_refusal_stands_above_another(self):
        for upper in refusals():
            under = [refusal for refusal in refusals() if issubclass(refusal, upper)]
            self.assertEqual(under, [upper])

    def test_the_refusals_are_nine_classes(self):
        self.assertEqual(len(set(refusals())), 9)

    def test_each_refusal_can_be_raised_and_taken_by_its_own_name(self):
        for refusal in refusals():
            with self.assertRaises(refusal) as taken:
                raise refusal(3)
            self.assertIs(type(taken.exception), refusal)

    def test_a_bad_line_tells_its_place(self):
        for place in (0, 1, 1999):
            self.assertEqual(errors.BadLine(place).place, place)

    def assert_refused(self, refusal, question):
        """Refused with this class, and with none of the package's others but DuelError."""
        with self.assertRaises(ValueError) as taken:
            question()
        above = [other for other in refusals() if isinstance(taken.exception, other)]
        self.assertEqual(above, [refusal])
        self.assertIsInstance(taken.exception, DuelError)
        return taken.exception

    def test_what_is_raised_is_no_variable_and_nothing_else(self):
        questions = (
            lambda: stands_by(0, [True]),
            lambda: hand_of(("ws", []), 3),
            lambda: winning_choices(("ws", []), [True, False]),
            lambda: Planned([(1, [], True)]).answer(2, [True]),
            lambda: Planned([]).answer(0, []),
            lambda: player_back(("ws", [(1,)]), ("unit", 0), "wisher", Planned([(1, [], True)])).answer(2, [True]),
        )
        for question in questions:
            self.assert_refused(errors.NoVariable, question)

    def test_what_is_raised_is_bad_line_and_nothing_else(self):
        for paper, place in ((("spoiler", [None]), 0), (("spoiler", [("given", 0), ("drop", 1)]), 1),
                             (("wisher", [("hits", (1,)), ("hits", (1, 3))]), 1), (("wisher", [("given", 0)]), 0)):
            for question in (sets_of, plan_of, needed_lines, shortened_paper, joined_clauses):
                refused = self.assert_refused(errors.BadLine, lambda: question(("ws", [(1, 2)]), paper))
                self.assertEqual(refused.place, place)
                self.assertNotIsInstance(refused.place, bool)

    def test_what_is_raised_is_not_whole_and_nothing_else(self):
        for paper in (("spoiler", []), ("wisher", []), ("spoiler", [("given", 0)]), ("wisher", [("hits", (2,))])):
            for question in (plan_of, needed_lines, shortened_paper):
                self.assert_refused(errors.NotWhole, lambda: question(("ws", [(1, 2)]), paper))
        for sentence in (("", []), ("", [()]), ("ws", [(1, 2)])):
            self.assert_refused(errors.NotWhole, lambda: Searcher(sentence).paper())

    def test_what_is_raised_is_no_filling_and_nothing_else(self):
        for others in ([], [True, True], [False] * 40):
            self.assert_refused(
                errors.NoFilling, lambda: played_by(("ws", []), "wisher", Planned([(1, [], True)]), others)
            )

    def test_what_is_raised_is_no_hand_and_nothing_else(self):
        for lines in ([], [("hits", (1,))], [("hits", (2,)), ("drop", 0)]):
            self.assert_refused(errors.NoHand, lambda: joined_clauses(("ws", [(1, 2)]), ("wisher", lines)))

    def test_what_is_raised_is_bad_step_and_nothing_else(self):
        sentence = ("ws", [(1, 2)])
        player = Planned([(2, [], True)])
        for step in ((), ("drop",), ("drop", 1), ("unit", 0), ("pure", -1), ("within", 0, 0), ("blocked", 0, 2)):
            self.assert_refused(errors.BadStep, lambda: smaller_by(sentence, step))
            self.assert_refused(errors.BadStep, lambda: player_back(sentence, step, "spoiler", player))

    def test_what_is_raised_is_no_form_and_nothing_else(self):
        for nodes in (None, [], [("in", 2)], [("not", 0)]):
            for question in (
                lambda: clauses_of("w", nodes), lambda: form_winner("w", nodes),
                lambda: form_losing_play("w", nodes, "wisher", Planned([(1, [], True)])),
                lambda: game_winner((1, [True], "w", [[("yes",)]], nodes), 1),
                lambda: unrolled_game((1, [True], "w", [nodes], nodes), 1), lambda: game_winner(nodes, 5),
                lambda: unrolled_game(nodes, -1),
            ):
                self.assert_refused(errors.NoForm, question)

    def test_what_is_raised_is_too_many_and_nothing_else(self):
        game = (1, [True], "w", [[("in", 1)]], [("in", 1)])
        for rounds in (-1, 5, 10 ** 59, 10 ** 5000):
            self.assert_refused(errors.TooMany, lambda: game_winner(game, rounds))
            self.assert_refused(errors.TooMany, lambda: unrolled_game(game, rounds))

    def test_what_is_raised_is_no_text_and_nothing_else(self):
        for text in ("", "w\n", "w\n1", "w\n2 0", "x", "wisher\ngiven 0", "spoiler\nhits 1", "wisher\nhits 01"):
            self.assert_refused(errors.NoText, lambda: read_sentence(text))
            self.assert_refused(errors.NoText, lambda: read_paper(text))


if __name__ == "__main__":
    unittest.main()
