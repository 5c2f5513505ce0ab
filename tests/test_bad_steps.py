"""Point 25: smaller_by and player_back refuse with BadStep any tuple that is no step of the sentence."""

import copy
import unittest

from oathduel.errors import BadStep
from oathduel.players import Planned
from oathduel.steps import player_back, smaller_by
from tests.samples import (
    MANY_FIGURES, TOO_MANY_TO_WRITE, drawn_sentences, plain_smaller, plain_variables, tiny_sentences, tried_steps,
)

SENTENCE = ("wsws", [(1,), (1, 2, 3), (-1, -3), (3, -4), (2,), ()])

STRANGE = (
    None, True, False, "", "0", "1", "drop", "\n", (), (0,), (1,), [], [0], [1], ((),), [[]], MANY_FIGURES,
    -MANY_FIGURES, TOO_MANY_TO_WRITE, -TOO_MANY_TO_WRITE, 6, 7, -1, -6, -7,
)


class BadStepTest(unittest.TestCase):
    def assert_bad(self, sentence, step):
        ahead = copy.deepcopy((sentence, step))
        with self.assertRaises(BadStep) as taken:
            smaller_by(sentence, step)
        self.assertIs(type(taken.exception), BadStep)
        for hand in ("wisher", "spoiler"):
            player = Planned([(variable, [], True) for variable in plain_variables(sentence, hand)])
            with self.assertRaises(BadStep) as taken:
                player_back(sentence, step, hand, player)
            self.assertIs(type(taken.exception), BadStep)
        self.assertEqual((sentence, step), ahead)

    def test_these_are_steps(self):
        for step in (("drop", 0), ("drop", 5), ("unit", 0), ("pure", 2), ("pure", -4), ("within", 1, 0),
                     ("within", 1, 4), ("within", 0, 5), ("blocked", 1, 3)):
            smaller_by(SENTENCE, step)
            player_back(SENTENCE, step, "wisher", Planned([(1, [], True), (3, [], True)]))

    def test_no_word_and_other_words(self):
        for step in ((), ("",), ("drop",), (None,), (0,), (None, 0), (0, 0), (True, 0), ("Drop", 0), ("drop ", 0),
                     ("DROP", 0), (" drop", 0), ("dro", 0), ("drops", 0), ("given", 0), ("hits", (1,)),
                     ("join", 1, 0, 1), ("units", 0), ("pur", 2), ("with", 1, 0), ("block", 1, 3), (("drop",), 0),
                     (["drop"], 0),
                     (("drop", 0),), (("drop", 0), 0), ("drop\n", 0), (("blocked", 1, 3), None)):
            self.assert_bad(SENTENCE, step)

    def test_parts_more_or_fewer(self):
        for step in (("drop", 0), ("unit", 0), ("pure", 2), ("within", 1, 0), ("blocked", 1, 3)):
            smaller_by(SENTENCE, step)
            for other in (step[:1], step[:-1], step + (0,), step + (1,), step + (None,), step + ((),), step + step,
                          step[1:], (step,), step[::-1]):
                self.assert_bad(SENTENCE, other)

    def test_one_kinds_parts_under_another_kinds_word(self):
        for step in (("drop", 1, 0), ("unit", 0, 1), ("pure", 1, 3), ("within", 1), ("blocked", 1), ("blocked", 3)):
            self.assert_bad(SENTENCE, step)

    def test_strange_things_in_the_place_of_numbers(self):
        for thing in STRANGE:
            for step in (("drop", thing), ("unit", thing), ("pure", thing), ("within", thing, 0), ("within", thing, 5),
                         ("within", 1, thing), ("blocked", thing, 3), ("blocked", 1, thing)):
                self.assert_bad(SENTENCE, step)
            self.assert_bad(SENTENCE, ("within", thing, thing))
            self.assert_bad(SENTENCE, ("blocked", thing, thing))

    def test_true_and_false_are_no_numbers(self):
        # With 1 and 0 in their places, each of these is a step.
        sentence = ("ww", [(1,), (1, 2), (1,)])
        for step in (("drop", 1), ("drop", 0), ("unit", 0), ("pure", 1), ("within", 1, 0), ("within", 0, 2),
                     ("within", 2, 0), ("within", 1, 2), ("blocked", 0, 1), ("blocked", 1, 1), ("blocked", 1, 2)):
            smaller_by(sentence, step)
            for place in range(1, len(step)):
                if step[place] in (0, 1):
                    self.assert_bad(sentence, step[:place] + (bool(step[place]),) + step[place + 1:])

    def test_places_out_of_range(self):
        for clauses in ([], [(1,)], [(1,), (1,), (1,)]):
            sentence = ("w", clauses)
            for place in (-1, -2, -len(clauses), len(clauses), len(clauses) + 1, MANY_FIGURES, -MANY_FIGURES):
                if place != 0 or not clauses:
                    for step in (("drop", place), ("unit", place), ("within", place, 0), ("within", 0, place),
                                 ("within", place, place), ("blocked", place, 1)):
                        self.assert_bad(sentence, step)

    def test_no_clauses_no_steps(self):
        for turns in ("", "w", "s", "ws"):
            for step in tried_steps((turns, [])) + [("drop", 0), ("pure", 1), ("within", 0, 0), ("blocked", 0, 1)]:
                self.assert_bad((turns, []), step)

    def test_units_that_are_none(self):
        sentence = ("ws", [(1, 2), (2,), (-2,), (), (1,)])
        for place in range(4):
            self.assert_bad(sentence, ("unit", place))
        smaller_by(sentence, ("unit", 4))
        self.assert_bad(("ww", [(1, 2)]), ("unit", 0))

    def test_pure_literals_that_are_none(self):
        sentence = ("wsws", [(1, -2), (-1,), (2, -3)])
        # 1 and 2 stand both ways, 3 stands the other way about, 4 and 5 stand nowhere, 0 is none.
        for literal in (1, -1, 2, -2, 3, 4, -4, 5, -5, 0):
            self.assert_bad(sentence, ("pure", literal))
        smaller_by(sentence, ("pure", -3))

    def test_within_that_is_none(self):
        sentence = ("wsw", [(1, 2), (1, 3), (1, -2), (-1,), (2, 3), (1,)])
        for step in [("within", k, k) for k in range(6)] + [("within", 0, k) for k in range(5)] + [
            ("within", 5, 0), ("within", 5, 3), ("within", 3, 5), ("within", 4, 5),
        ]:
            self.assert_bad(sentence, step)
        smaller_by(sentence, ("within", 0, 5))
        for clauses in ([()], [(1,)], [(1,), (2,)]):
            self.assert_bad(("ww", clauses), ("within", 0, 0))

    def test_a_literal_that_does_not_stand_so(self):
        sentence = ("sww", [(1, 2), (-1, -2), (3,)])
        for step in (("blocked", 0, -2), ("blocked", 1, 2), ("blocked", 0, 3), ("blocked", 2, 2), ("blocked", 2, -3),
                     ("blocked", 0, 0), ("blocked", 0, 4)):
            self.assert_bad(sentence, step)

    def test_a_literal_of_the_spoilers(self):
        self.assert_bad(("ss", [(1, 2), (-1, -2)]), ("blocked", 0, 2))
        self.assert_bad(("ws", [(1, 2), (-1, -2)]), ("blocked", 0, 2))
        self.assert_bad(("s", [(1,)]), ("blocked", 0, 1))
        self.assert_bad(("s", [(1,)]), ("unit", 0))

    def test_no_lesser_variable_the_other_way_about(self):
        for clauses, step in (
            ([(1, 2), (1, -2)], ("blocked", 0, 2)), ([(1, 2), (-2,)], ("blocked", 0, 2)),
            # The only variable that stands the other way about is greater, or is the literal's own.
            ([(2, 3), (-2, -3)], ("blocked", 0, 2)), ([(2,), (-2,)], ("blocked", 0, 2)),
            # One clause with the opposite has a lesser one, another one has none.
            ([(1, 2), (-1, -2), (-2, 3)], ("blocked", 0, 2)), ([(1, 2), (-2, 3), (-1, -2)], ("blocked", 0, 2)),
        ):
            self.assert_bad(("www", clauses), step)
            self.assert_bad(("sww", clauses), step)

    def test_all_that_is_none_against_the_words(self):
        many = 0
        for sentence in tiny_sentences()[::5] + drawn_sentences(28, 40, (3, 4), 5):
            for step in tried_steps(sentence):
                if plain_smaller(sentence, step) is None:
                    self.assert_bad(sentence, step)
                    many += 1
        self.assertGreater(many, 2000)


if __name__ == "__main__":
    unittest.main()
