"""Point 18: what comes of a player and the other hand's values, and the first values by which the player loses."""

import random
import unittest

from oathduel.errors import NoFilling
from oathduel.players import Planned, losing_play, played_by
from oathduel.plans import plan_of
from tests.samples import (
    all_fillings, drawn_plan, drawn_sentences, other_of, plain_filling, plain_variables, plainly_true,
    small_sentences, tiny_sentences, whole_paper,
)

HANDS = ("wisher", "spoiler")


def all_others(sentence, hand):
    """Every list of the other hand's values, False ahead of True, the first place telling first."""
    return all_fillings(len(plain_variables(sentence, other_of(hand))))


def losing_lists(sentence, hand, plan):
    return [
        others for others in all_others(sentence, hand)
        if plainly_true(sentence, plain_filling(sentence, hand, plan, others)) is (hand == "spoiler")
    ]


def drawn_plays(sentences, seed):
    draw = random.Random(seed)
    for sentence in sentences:
        for hand in HANDS:
            yield sentence, hand, drawn_plan(draw, sentence, hand)


class PlayedByTest(unittest.TestCase):
    def test_each_hand_fills_in_where_it_is_its_turn(self):
        plan = [(2, [((1,), False)], True), (3, [((2,), True)], False)]
        for others, filling in (
            ([False, False], [False, True, True, False]), ([False, True], [False, True, True, True]),
            ([True, False], [True, False, False, False]), ([True, True], [True, False, False, True]),
        ):
            self.assertEqual(played_by(("swws", []), "wisher", Planned(plan), others), filling)
            self.assertEqual(played_by(("wssw", []), "spoiler", Planned(plan), others), filling)

    def test_the_player_is_asked_with_what_is_filled_in_by_then(self):
        plan = [(1, [], True), (3, [((1, 2), False), ((1, -2), True)], False), (4, [((-3,), True)], False)]
        self.assertEqual(played_by(("wsww", []), "wisher", Planned(plan), [True]), [True, True, False, True])
        self.assertEqual(played_by(("wsww", []), "wisher", Planned(plan), [False]), [True, False, True, False])

    def test_what_the_clauses_are_changes_nothing(self):
        for clauses in ([], [()], [(1,), (-2,)]):
            self.assertEqual(played_by(("ws", clauses), "wisher", Planned([(1, [], True)]), [False]), [True, False])

    def test_edges(self):
        self.assertEqual(played_by(("", []), "wisher", Planned([]), []), [])
        self.assertEqual(played_by(("", [()]), "spoiler", Planned([]), []), [])
        self.assertEqual(played_by(("sss", []), "wisher", Planned([]), [True, False, True]), [True, False, True])
        plan = [(1, [], True), (2, [((1,), False)], True)]
        self.assertEqual(played_by(("ww", []), "wisher", Planned(plan), []), [True, False])
        self.assertEqual(played_by(("ss", []), "spoiler", Planned(plan), []), [True, False])

    def test_against_a_plain_walk(self):
        for sentence, hand, plan in drawn_plays(tiny_sentences()[::7] + drawn_sentences(5, 60, (3, 5, 6), 4), 8):
            player = Planned(plan)
            for others in all_others(sentence, hand):
                told = played_by(sentence, hand, player, others)
                self.assertEqual(told, plain_filling(sentence, hand, plan, others))
                self.assertEqual([type(value) for value in told], [bool] * len(sentence[0]))

    def test_the_told_filling_is_the_askers_own(self):
        for turns, others in (("sss", [True, False, True]), ("sws", [True, False]), ("www", [])):
            plan = [(k + 1, [], True) for k, sign in enumerate(turns) if sign == "w"]
            player = Planned(plan)
            ahead = list(others)
            told = played_by((turns, []), "wisher", player, others)
            first = list(told)
            self.assertIsNot(told, others)
            told.clear()
            self.assertEqual(others, ahead)
            self.assertEqual(played_by((turns, []), "wisher", player, others), first)

    def test_a_told_filling_keeps_when_the_values_handed_in_change(self):
        others = [True, False]
        told = played_by(("sws", []), "wisher", Planned([(2, [((1,), True)], False)]), others)
        others.reverse()
        self.assertEqual(told, [True, True, False])


class NoFillingTest(unittest.TestCase):
    def assert_refused(self, sentence, hand, plan, others):
        ahead = list(others)
        with self.assertRaises(NoFilling) as taken:
            played_by(sentence, hand, Planned(plan), others)
        self.assertIs(type(taken.exception), NoFilling)
        self.assertEqual(others, ahead)

    def test_one_value_short_one_too_long_and_none_at_all(self):
        for sentence, hand, plan in drawn_plays(drawn_sentences(6, 60, (1, 2, 4, 6), 4), 9):
            due = len(plain_variables(sentence, other_of(hand)))
            for length in (0, due - 1, due + 1, due + 2, due + 40):
                if length >= 0 and length != due:
                    for value in (False, True):
                        self.assert_refused(sentence, hand, plan, [value] * length)
            self.assertEqual(len(played_by(sentence, hand, Planned(plan), [True] * due)), len(sentence[0]))

    def test_where_no_values_are_due(self):
        for sentence, hand, plan in ((("", []), "wisher", []), (("", [()]), "spoiler", []),
                                     (("w", []), "wisher", [(1, [], True)]), (("s", []), "spoiler", [(1, [], True)])):
            for others in ([False], [True], [True, False]):
                self.assert_refused(sentence, hand, plan, others)

    def test_as_many_as_there_are_variables_is_too_many(self):
        self.assert_refused(("ws", []), "wisher", [(1, [], True)], [True, False])
        self.assert_refused(("ws", []), "spoiler", [(2, [], True)], [True, False])

    def test_values_for_the_players_own_hand_do_not_count(self):
        self.assert_refused(("wws", []), "wisher", [(1, [], True), (2, [], True)], [True, False])
        self.assert_refused(("wws", []), "spoiler", [(3, [], True)], [True])


class LosingPlayTest(unittest.TestCase):
    def assert_first(self, sentence, hand, plan, others):
        self.assertEqual(losing_play(sentence, hand, Planned(plan)), others)
        self.assertEqual((losing_lists(sentence, hand, plan) + [None])[0], others)

    def test_the_wisher_loses_where_the_sentence_does_not_come_true(self):
        sentence = ("sws", [(1, 2), (-1, -2)])
        self.assert_first(sentence, "wisher", [(2, [((1,), False)], True)], None)
        self.assert_first(sentence, "wisher", [(2, [], False)], [False, False])
        self.assert_first(sentence, "wisher", [(2, [], True)], [True, False])

    def test_the_spoiler_loses_where_the_sentence_comes_true(self):
        sentence = ("wsw", [(1, 2), (-1, -2)])
        self.assert_first(sentence, "spoiler", [(2, [((1,), True)], False)], None)
        self.assert_first(sentence, "spoiler", [(2, [], True)], [False, False])
        self.assert_first(sentence, "spoiler", [(2, [], False)], [True, False])

    def test_lost_at_the_first_a_middle_and_the_last_list_alone(self):
        for lost in all_fillings(3):
            # This clause is the only one, and each of its literals stands by every other list.
            clause = tuple(-k - 1 if value else k + 1 for k, value in enumerate(lost))
            self.assert_first(("sssw", [clause]), "wisher", [(4, [], False)], lost)
            self.assert_first(("sssw", [clause + (4,)]), "wisher", [(4, [], True)], None)

    def test_the_first_place_tells_first(self):
        # Lost by yes, no, no and by no, yes, yes: the latter comes ahead.
        sentence = ("sss", [(-1, 2, 3), (1, -2, -3)])
        self.assert_first(sentence, "wisher", [], [False, True, True])
        # Lost by no, no, yes and by no, yes, no.
        self.assert_first(("sss", [(1, 2, -3), (1, -2, 3)]), "wisher", [], [False, False, True])

    def test_a_list_has_the_other_hands_values_alone(self):
        sentence = ("swsws", [(1, 2, -3), (-1, -5), (4,)])
        self.assert_first(sentence, "wisher", [(2, [], False), (4, [], True)], [False, True, False])
        self.assert_first(sentence, "wisher", [(2, [], True), (4, [], True)], [True, False, True])
        self.assert_first(sentence, "wisher", [(2, [], True), (4, [], False)], [False, False, False])

    def test_no_variables(self):
        self.assert_first(("", []), "wisher", [], None)
        self.assert_first(("", []), "spoiler", [], [])
        self.assert_first(("", [()]), "wisher", [], [])
        self.assert_first(("", [()]), "spoiler", [], None)

    def test_no_clauses(self):
        self.assert_first(("wsw", []), "wisher", [(1, [], True), (3, [], True)], None)
        self.assert_first(("wsw", []), "spoiler", [(2, [], True)], [False, False])

    def test_an_empty_clause(self):
        self.assert_first(("wsw", [(1,), ()]), "wisher", [(1, [], True), (3, [], True)], [False])
        self.assert_first(("wsw", [(1,), ()]), "spoiler", [(2, [], True)], None)

    def test_all_variables_of_the_players_hand(self):
        for value in (False, True):
            self.assert_first(("w", [(1,)]), "wisher", [(1, [], value)], None if value else [])
            self.assert_first(("s", [(1,)]), "spoiler", [(1, [], value)], [] if value else None)

    def test_all_variables_of_the_other_hand(self):
        self.assert_first(("ss", [(1, 2)]), "wisher", [], [False, False])
        self.assert_first(("ww", [(1,), (2,)]), "spoiler", [], [True, True])
        self.assert_first(("ww", [(1,), (-1,)]), "spoiler", [], None)

    def test_against_a_plain_walk(self):
        places = {"none": 0, "first": 0, "middle": 0, "last": 0}
        for sentence, hand, plan in drawn_plays(small_sentences(), 10):
            lost = losing_lists(sentence, hand, plan)
            self.assertEqual(losing_play(sentence, hand, Planned(plan)), (lost + [None])[0], (sentence, hand, plan))
            lists = all_others(sentence, hand)
            if not lost:
                places["none"] += 1
            elif lost[0] == lists[0]:
                places["first"] += 1
            else:
                places["last" if lost[0] == lists[-1] else "middle"] += 1
        self.assertGreater(min(places.values()), 40, places)

    def test_plans_read_off_whole_papers_lose_by_none(self):
        for sentence in small_sentences()[::3] + drawn_sentences(212, 20, (6, 7, 8), 12):
            paper = whole_paper(sentence)
            self.assertIsNone(losing_play(sentence, paper[0], Planned(plan_of(sentence, paper))))

    def test_a_losing_play_is_played_to_a_loss(self):
        for sentence, hand, plan in drawn_plays(drawn_sentences(213, 80, (5, 6), 9), 11):
            player = Planned(plan)
            others = losing_play(sentence, hand, player)
            if others is not None:
                filling = played_by(sentence, hand, player, others)
                self.assertIs(plainly_true(sentence, filling), hand == "spoiler")

    def test_twelve_variables(self):
        clause = tuple(range(-1, -12, -1)) + (12,)
        self.assert_first(("s" * 11 + "w", [clause]), "wisher", [(12, [], False)], [True] * 11)
        self.assert_first(("s" * 11 + "w", [clause]), "wisher", [(12, [], True)], None)
        self.assert_first(("s" * 12, [clause]), "wisher", [], [True] * 11 + [False])

    def test_changing_a_told_list_changes_nothing_told_later(self):
        for sentence in (("", [()]), ("s", [()]), ("ss", [(1, -2)])):
            player = Planned([])
            told = losing_play(sentence, "wisher", player)
            first = list(told)
            told.append(None)
            told.reverse()
            self.assertEqual(losing_play(sentence, "wisher", player), first)


if __name__ == "__main__":
    unittest.main()
