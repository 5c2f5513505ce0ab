"""The whole document: the hand that wins a sentence wins it whatever is made of it, and by whatever way."""

import random
import unittest

from oathduel.papers import is_whole
from oathduel.plans import is_plan, plan_of
from oathduel.players import Planned, losing_play
from oathduel.search import Searcher, settled_paper
from oathduel.sentences import is_sentence
from oathduel.shapes import clauses_of, form_losing_play, form_winner
from oathduel.shorter import joined_clauses, shortened_paper
from oathduel.steps import all_smaller, next_step, player_back, smaller_by
from oathduel.texts import read_paper, read_sentence, shown_paper, shown_sentence
from oathduel.walks import winner_of
from tests.samples import (
    all_steps, drawn_sentences, plain_winner, sentence_form, small_sentences, spoilers_paper,
)


def sentences():
    return small_sentences()[::3] + drawn_sentences(100, 60, (5, 6, 7), 14)


def smaller_chain(sentence, steps):
    chain = [sentence]
    for step in steps:
        chain.append(smaller_by(chain[-1], step))
    return chain


def led_back(chain, steps, hand, player):
    """The player of the chain's last sentence, led back to its first one."""
    for ahead, step in zip(chain[-2::-1], steps[::-1]):
        player = player_back(ahead, step, hand, player)
    return player


class SameWinnerTest(unittest.TestCase):
    def test_behind_each_step_and_behind_all(self):
        for sentence in sentences():
            winner = winner_of(sentence)
            self.assertEqual(winner, plain_winner(sentence, []))
            for step in all_steps(sentence)[::3]:
                self.assertEqual(settled_paper(smaller_by(sentence, step))[0], winner)
            for left in smaller_chain(sentence, all_smaller(sentence)):
                self.assertIs(is_sentence(left), True)
                self.assertEqual(winner_of(left), winner)

    def test_as_a_form_and_as_the_sentence_made_of_it(self):
        for sentence in sentences():
            nodes = sentence_form(sentence)
            self.assertEqual(form_winner(sentence[0], nodes), winner_of(sentence))
            searcher = Searcher(clauses_of(sentence[0], nodes))
            if searcher.go(10000):
                self.assertEqual(searcher.paper()[0], winner_of(sentence))

    def test_through_texts(self):
        for sentence in sentences():
            again = read_sentence(shown_sentence(sentence))
            self.assertEqual(winner_of(again), winner_of(sentence))
            paper = read_paper(shown_paper(settled_paper(sentence)))
            self.assertEqual(paper[0], winner_of(sentence))
            self.assertIs(is_whole(again, paper), True)
            self.assertIs(is_whole(again, shortened_paper(again, paper)), True)

    def test_with_joined_clauses_put_behind(self):
        draw = random.Random(101)
        more = 0
        for sentence in sentences():
            joined = joined_clauses(sentence, spoilers_paper(draw, sentence)[0])
            self.assertEqual(winner_of(joined), winner_of(sentence))
            more += len(joined[1]) > len(sentence[1])
            for left in smaller_chain(joined, all_smaller(joined))[-2:]:
                self.assertEqual(winner_of(left), winner_of(sentence))
            searcher = Searcher(sentence)
            searcher.go(20)
            self.assertEqual(winner_of(joined_clauses(sentence, searcher.learnt()[0])), winner_of(sentence))
        self.assertGreater(more, 50)


class WaysToWinTest(unittest.TestCase):
    def test_a_plan_off_a_settled_paper_led_back_through_steps(self):
        seen = {"wisher": 0, "spoiler": 0}
        for sentence in sentences():
            hand = winner_of(sentence)
            steps = all_smaller(sentence)[:6]
            chain = smaller_chain(sentence, steps)
            paper = settled_paper(chain[-1])
            plan = plan_of(chain[-1], paper)
            self.assertIs(is_plan(sentence, hand, plan), True)
            player = led_back(chain, steps, hand, Planned(plan))
            self.assertIsNone(losing_play(sentence, hand, player))
            self.assertIsNone(form_losing_play(sentence[0], sentence_form(sentence), hand, player))
            seen[hand] += len(steps) > 2
        self.assertGreater(min(seen.values()), 20)

    def test_led_back_through_drawn_steps(self):
        draw = random.Random(102)
        for sentence in drawn_sentences(103, 80, (5, 6, 7), 14):
            steps = []
            left = sentence
            while len(steps) < 6 and all_steps(left):
                steps.append(draw.choice(all_steps(left)))
                left = smaller_by(left, steps[-1])
            hand = winner_of(left)
            again = read_paper(shown_paper(settled_paper(left)))
            player = led_back(smaller_chain(sentence, steps), steps, hand, Planned(plan_of(left, again)))
            self.assertEqual(hand, winner_of(sentence))
            self.assertIsNone(losing_play(sentence, hand, player))

    def test_a_smaller_sentence_with_no_step_left_goes_on_being_won(self):
        # Where no step is left, the searcher still settles it; the plan is led back through all steps there were.
        for sentence in drawn_sentences(104, 40, (6, 7), 20):
            steps = all_smaller(sentence)
            chain = smaller_chain(sentence, steps)
            self.assertIsNone(next_step(chain[-1]))
            hand = winner_of(sentence)
            player = Planned(plan_of(chain[-1], settled_paper(chain[-1])))
            self.assertIsNone(losing_play(sentence, hand, led_back(chain, steps, hand, player)))

    def test_the_hand_that_does_not_win_loses_by_some_values(self):
        for sentence in sentences():
            hand = winner_of(sentence)
            loser = "spoiler" if hand == "wisher" else "wisher"
            plan = [(k + 1, [], False) for k, sign in enumerate(sentence[0]) if sign == loser[0]]
            steps = all_smaller(sentence)[:6]
            player = led_back(smaller_chain(sentence, steps), steps, loser, Planned(plan))
            self.assertIsNotNone(losing_play(sentence, loser, player))
            self.assertIsNotNone(form_losing_play(sentence[0], sentence_form(sentence), loser, player))


if __name__ == "__main__":
    unittest.main()
