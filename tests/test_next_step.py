"""Point 25: next_step tells a step that makes the clauses fewer or shorter, all_smaller all of them in turn."""

import random
import unittest

from oathduel.shapes import clauses_of
from oathduel.steps import all_smaller, next_step, smaller_by
from tests.samples import (
    all_steps, dense_form, drawn_sentences, plain_smaller, plain_winner, size_of, small_sentences,
)

# For each kind of step, sentences of which no other kind is a step that makes them smaller.
ONE_KIND = {
    "drop": [
        ("s", [(1,), (-1,)]), ("ws", [(2,), (-2,)]),
        ("wsw", [(1, 2), (-1, -2), (1, 3), (-1, 3), (1, -3), (-1, -3)]),
    ],
    "unit": [("w", [(1,), (-1,)]), ("ww", [(-2,), (2,)])],
    "pure": [("sw", [(1, 2), (1, -2)]), ("sw", [(-1, 2), (-1, -2)])],
    "within": [("", [(), ()]), ("ws", [(), ()]), ("sw", [(1, 2), (1, -2), (-1, 2), (-1, -2), (1, 2)])],
    "blocked": [("ww", [(1, 2), (-1, -2)]), ("ww", [(-1, 2), (1, -2)])],
}
STUCK = [
    ("", []), ("wsw", []), ("", [()]), ("ws", [()]), ("sw", [(1, 2), (1, -2), (-1, 2), (-1, -2)]),
    ("ww", [(1, 2), (1, -2), (-1, 2), (-1, -2)]),
    # Were variable 2 the wisher's, two clauses would be blocked.
    ("ssw", [(-1, -3), (-1, 2, 3), (1, -3), (1, -2, 3)]),
]


def smaller_steps(sentence):
    """The steps behind which clauses are fewer or shorter."""
    return [step for step in all_steps(sentence) if plain_smaller(sentence, step) != sentence[1]]


def sentences():
    return small_sentences() + drawn_sentences(31, 150, (4, 5, 6), 16)


class NextStepTest(unittest.TestCase):
    def assert_next(self, sentence):
        step = next_step(sentence)
        known = smaller_steps(sentence)
        if step is None:
            self.assertEqual(known, [], sentence)
            return None
        self.assertIn(step, known)
        self.assertEqual([type(part) for part in step], [str] + [int] * (len(step) - 1))
        left = smaller_by(sentence, step)
        self.assertLess(size_of(left[1]), size_of(sentence[1]))
        return left

    def test_each_kind_where_there_is_no_other(self):
        for word, known in ONE_KIND.items():
            for sentence in known:
                self.assertEqual({step[0] for step in smaller_steps(sentence)}, {word}, sentence)
                self.assertEqual(next_step(sentence)[0], word)
                self.assert_next(sentence)

    def test_none_where_there_is_none(self):
        for sentence in STUCK:
            self.assertEqual(smaller_steps(sentence), [])
            self.assertIsNone(next_step(sentence))
            self.assertEqual(all_smaller(sentence), [])

    def test_a_drop_that_takes_nothing_out_is_not_told(self):
        for sentence in sentences():
            step = next_step(sentence)
            if step is not None and step[0] == "drop":
                self.assertNotEqual(smaller_by(sentence, step)[1], sentence[1])

    def test_against_the_words(self):
        ends = 0
        for sentence in sentences()[::2]:
            for number in range(60):
                left = self.assert_next(sentence)
                if left is None:
                    ends += 1
                    break
                sentence = left
        self.assertEqual(ends, len(sentences()[::2]))

    def test_the_same_question_has_the_same_answer(self):
        for sentence in sentences()[::3]:
            again = (sentence[0], list(sentence[1]))
            self.assertEqual(next_step(sentence), next_step(again))
            self.assertEqual(all_smaller(sentence), all_smaller(again))

    def test_nothing_is_kept_from_the_question_ahead(self):
        asked = sentences()[::5]
        told = [(next_step(sentence), all_smaller(sentence)) for sentence in asked]
        self.assertEqual([(next_step(s), all_smaller(s)) for s in reversed(asked)], told[::-1])


class AllSmallerTest(unittest.TestCase):
    def test_the_steps_of_next_step_one_behind_the_other(self):
        longest = 0
        for sentence in sentences():
            steps = all_smaller(sentence)
            left = sentence
            for step in steps:
                self.assertEqual(next_step(left), step)
                left = smaller_by(left, step)
            self.assertIsNone(next_step(left))
            self.assertEqual(smaller_steps(left), [])
            longest = max(longest, len(steps))
        self.assertGreater(longest, 12)

    def test_the_same_hand_wins_at_the_end(self):
        winners = {"wisher": 0, "spoiler": 0}
        for sentence in sentences():
            left = sentence
            for step in all_smaller(sentence):
                left = smaller_by(left, step)
            winner = plain_winner(sentence, [])
            self.assertEqual(plain_winner(left, []), winner)
            winners[winner] += 1
        self.assertGreater(min(winners.values()), 100)

    def test_one_hand_alone_and_an_empty_clause(self):
        for clauses in ([(1,), ()], [(1, 2), (), (), (-1,)]):
            left = ("sw", clauses)
            for step in all_smaller(left):
                left = smaller_by(left, step)
            self.assertEqual(left, ("sw", [()]))
        left = ("ss", [(1, 2), (-1, -2)])
        for step in all_smaller(left):
            left = smaller_by(left, step)
        self.assertEqual(left, ("ss", [()]))

    def test_the_list_is_the_askers_own(self):
        sentence = ("wsw", [(1,), (-1, 2, 3), (2, -3)])
        told = all_smaller(sentence)
        ahead = list(told)
        told.append(None)
        told.reverse()
        self.assertEqual(all_smaller(sentence), ahead)
        self.assertEqual(sentence, ("wsw", [(1,), (-1, 2, 3), (2, -3)]))


class BoundsTest(unittest.TestCase):
    def test_forty_variables_and_two_hundred_clauses(self):
        draw = random.Random(33)
        for longest in (2, 3, 5, 12, 40):
            turns = "".join(draw.choice("ws") for k in range(40))
            clauses = [
                tuple(v * draw.choice((1, -1)) for v in sorted(draw.sample(range(1, 41), draw.randint(1, longest))))
                for k in range(200)
            ]
            self.walk_down((turns, clauses))

    def test_a_sentence_made_of_a_form(self):
        sentence = clauses_of("wsws", dense_form(random.Random(34), 4, 100))
        self.walk_down(sentence)

    def walk_down(self, sentence):
        left = sentence
        for step in all_smaller(sentence):
            self.assertIsNotNone(plain_smaller(left, step))
            left = (left[0], plain_smaller(left, step))
        self.assertIsNone(next_step(left))


if __name__ == "__main__":
    unittest.main()
