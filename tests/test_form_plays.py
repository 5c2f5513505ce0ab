"""Point 29: who wins a form, and the first values by which a player loses it."""

import random
import unittest

from oathduel.players import Planned, losing_play
from oathduel.plans import plan_of
from oathduel.search import Searcher
from oathduel.shapes import clauses_of, form_losing_play, form_winner
from oathduel.steps import all_smaller, player_back, smaller_by
from tests.samples import (
    all_fillings, dense_form, drawn_forms, drawn_plan, drawn_sentences, other_of, plain_filling, plain_form_true,
    plain_form_winner, plain_variables, plain_winner, sentence_form, small_sentences,
)

HANDS = ("wisher", "spoiler")
EITHER = [("in", 1), ("in", 2), ("or", 0, 1)]
UNLIKE = [("in", 1), ("in", 2), ("or", 0, 1), ("and", 0, 1), ("not", 3), ("and", 2, 4)]


def losing_lists(turns, nodes, hand, plan):
    return [
        others for others in all_fillings(len(plain_variables((turns, []), other_of(hand))))
        if plain_form_true(nodes, plain_filling((turns, []), hand, plan, others)) is (hand == "spoiler")
    ]


def found_plan(sentence):
    """A plan to win by of a sentence that may have more than twelve variables, and its hand."""
    searcher = Searcher(sentence)
    for number in range(100):
        if searcher.go(10000):
            return searcher.paper()[0], plan_of(sentence, searcher.paper())
    raise AssertionError("not settled")


class FormWinnerTest(unittest.TestCase):
    def test_either_and_unlike(self):
        for turns, either, unlike in (
            ("ww", "wisher", "wisher"), ("ws", "wisher", "spoiler"), ("sw", "wisher", "wisher"),
            ("ss", "spoiler", "spoiler"),
        ):
            self.assertEqual(form_winner(turns, EITHER), either)
            self.assertEqual(form_winner(turns, UNLIKE), unlike)

    def test_no_turns_and_none_that_matter(self):
        for turns in ("", "w", "s", "ws"):
            self.assertEqual(form_winner(turns, [("yes",)]), "wisher")
            self.assertEqual(form_winner(turns, [("no",)]), "spoiler")
            self.assertEqual(form_winner(turns, [("no",), ("not", 0)]), "wisher")

    def test_against_a_plain_walk(self):
        winners = []
        for turns, nodes in drawn_forms(70, 400, (0, 1, 3, 5, 6), 20):
            winners.append(form_winner(turns, nodes))
            self.assertEqual(winners[-1], plain_form_winner(turns, nodes, []))
        self.assertGreater(min(winners.count("wisher"), winners.count("spoiler")), 100)

    def test_sentences_as_forms(self):
        for sentence in small_sentences()[::2]:
            self.assertEqual(form_winner(sentence[0], sentence_form(sentence)), plain_winner(sentence, []))

    def test_twelve_variables(self):
        draw = random.Random(71)
        for turns in ("wswswswswsws", "sssssswwwwww", "wwwwwwwwwwww", "ssssssssssss"):
            nodes = dense_form(draw, 12, 60)
            self.assertEqual(form_winner(turns, nodes), plain_form_winner(turns, nodes, []))
        # All of them, to be told apart by the last filling alone.
        chain = [("in", 1)]
        for variable in range(2, 13):
            chain += [("in", variable), ("and", len(chain) - 1, len(chain))]
        self.assertEqual(form_winner("w" * 12, chain), "wisher")
        self.assertEqual(form_winner("w" * 11 + "s", chain), "spoiler")
        self.assertEqual(form_winner("s" * 12, chain + [("not", len(chain) - 1)]), "spoiler")


class FormLosingPlayTest(unittest.TestCase):
    def assert_first(self, turns, nodes, hand, plan, others):
        self.assertEqual(form_losing_play(turns, nodes, hand, Planned(plan)), others)
        self.assertEqual((losing_lists(turns, nodes, hand, plan) + [None])[0], others)

    def test_the_first_list_by_which_it_loses(self):
        self.assert_first("sw", UNLIKE, "wisher", [(2, [((1,), False)], True)], None)
        self.assert_first("sw", UNLIKE, "wisher", [(2, [], False)], [False])
        self.assert_first("sw", UNLIKE, "wisher", [(2, [], True)], [True])
        self.assert_first("ws", UNLIKE, "spoiler", [(2, [((1,), True)], False)], None)
        self.assert_first("ws", UNLIKE, "spoiler", [(2, [], False)], [True])
        self.assert_first("ws", UNLIKE, "spoiler", [(2, [], True)], [False])

    def test_no_values_to_fill_in(self):
        self.assert_first("", [("yes",)], "wisher", [], None)
        self.assert_first("", [("yes",)], "spoiler", [], [])
        self.assert_first("", [("no",)], "wisher", [], [])
        self.assert_first("", [("no",)], "spoiler", [], None)
        self.assert_first("ww", EITHER, "wisher", [(1, [], False), (2, [], False)], [])
        self.assert_first("ww", EITHER, "wisher", [(1, [], False), (2, [], True)], None)

    def test_values_that_do_not_matter_are_told_too(self):
        self.assert_first("sss", [("no",)], "wisher", [], [False, False, False])
        self.assert_first("ss", [("in", 1), ("not", 0)], "wisher", [], [True, False])

    def test_against_a_plain_walk(self):
        draw = random.Random(72)
        seen = {}
        for turns, nodes in drawn_forms(73, 400, (0, 1, 3, 5, 6), 16):
            for hand in HANDS:
                plan = drawn_plan(draw, (turns, []), hand)
                lost = losing_lists(turns, nodes, hand, plan)
                self.assert_first(turns, nodes, hand, plan, (lost + [None])[0])
                kind = (hand, "none" if not lost else "first" if not any(lost[0]) else "later")
                seen[kind] = seen.get(kind, 0) + 1
        self.assertEqual(len(seen), 6)
        self.assertGreater(min(seen.values()), 20, seen)

    def test_as_the_sentence_loses(self):
        draw = random.Random(74)
        for sentence in drawn_sentences(75, 100, (3, 5), 6):
            for hand in HANDS:
                player = Planned(drawn_plan(draw, sentence, hand))
                told = form_losing_play(sentence[0], sentence_form(sentence), hand, player)
                self.assertEqual(told, losing_play(sentence, hand, player))

    def test_a_player_for_clauses_of_is_asked_for_the_turns_variables_alone(self):
        nodes = [("in", 1), ("in", 2), ("and", 0, 1)]
        for plan, lost in (([(1, [], True), (2, [((1,), True)], False)], None),
                           ([(1, [], True), (2, [], False)], [])):
            for value in (False, True):
                player = Planned(plan + [(3, [], value), (4, [], value), (5, [], value)])
                self.assertEqual(form_losing_play("ww", nodes, "wisher", player), lost)

    def test_a_plan_to_win_the_sentence_made_of_it_wins_the_form(self):
        winners = []
        for turns, nodes in drawn_forms(76, 120, (1, 2, 4), 9):
            hand, plan = found_plan(clauses_of(turns, nodes))
            self.assertEqual(hand, plain_form_winner(turns, nodes, []))
            self.assertIsNone(form_losing_play(turns, nodes, hand, Planned(plan)))
            winners.append(hand)
        self.assertGreater(min(winners.count("wisher"), winners.count("spoiler")), 20)

    def test_a_player_led_back_to_the_sentence_made_of_it(self):
        winners = []
        for turns, nodes in drawn_forms(77, 120, (1, 2, 4), 9):
            sentence = clauses_of(turns, nodes)
            steps = all_smaller(sentence)[:6]
            chain = [sentence]
            for step in steps:
                chain.append(smaller_by(chain[-1], step))
            hand, plan = found_plan(chain[-1])
            player = Planned(plan)
            for ahead, step in zip(chain[-2::-1], steps[::-1]):
                player = player_back(ahead, step, hand, player)
            self.assertEqual(hand, plain_form_winner(turns, nodes, []))
            self.assertIsNone(form_losing_play(turns, nodes, hand, player))
            self.assertIsNone(losing_play(sentence, hand, player) if hand == "wisher" else None)
            winners.append(hand)
        self.assertGreater(min(winners.count("wisher"), winners.count("spoiler")), 20)

    def test_twelve_variables(self):
        # Comes true but by the last list of all.
        chain = [("in", 1)]
        for variable in range(2, 13):
            chain += [("in", variable), ("and", len(chain) - 1, len(chain))]
        chain.append(("not", len(chain) - 1))
        self.assertEqual(form_losing_play("s" * 12, chain, "wisher", Planned([])), [True] * 12)
        self.assertEqual(form_losing_play("s" * 11 + "w", chain, "wisher", Planned([(12, [], True)])), [True] * 11)
        self.assertIsNone(form_losing_play("s" * 11 + "w", chain, "wisher", Planned([(12, [], False)])))

    def test_changing_a_told_list_changes_nothing_told_later(self):
        for turns in ("", "s", "ss"):
            told = form_losing_play(turns, [("no",)], "wisher", Planned([]))
            told.append(None)
            self.assertEqual(form_losing_play(turns, [("no",)], "wisher", Planned([])), [False] * len(turns))


if __name__ == "__main__":
    unittest.main()
