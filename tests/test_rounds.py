"""Points 30 and 31: games of several rounds, who wins them, and the form they unroll to."""

import copy
import random
import unittest

from oathduel.errors import NoForm, TooMany
from oathduel.rounds import game_winner, unrolled_game
from oathduel.shapes import clauses_of, form_true, form_winner, is_form
from oathduel.walks import winner_of
from tests.samples import (
    MANY_FIGURES, TOO_MANY_TO_WRITE, all_fillings, all_turns, dense_form, drawn_game, other_of, plain_form_true,
    plain_hand, plain_last_state,
)

SAME = [("in", 1)]
TURNED = [("in", 1), ("not", 0)]
CHOSEN = [("in", 2)]


def plain_game_winner(game, rounds, choices):
    """Who wins, by all choices of all rounds behind these and nothing kept."""
    if len(choices) == rounds * len(game[2]):
        return "wisher" if plain_form_true(game[4], plain_last_state(game, choices)) else "spoiler"
    hand = plain_hand((game[2] * rounds, []), len(choices) + 1)
    winners = [plain_game_winner(game, rounds, choices + [value]) for value in (True, False)]
    return hand if hand in winners else other_of(hand)


def drawn_games(seed, many, most_nodes, most_choices):
    """Games with a count of rounds each."""
    draw = random.Random(seed)
    told = []
    while len(told) < many:
        rounds, count = draw.randint(0, 4), draw.randint(1, 4)
        if rounds * count <= most_choices:
            told.append((drawn_game(draw, draw.randint(1, 6), count, most_nodes), rounds))
    return told


class GameWinnerTest(unittest.TestCase):
    def assert_winner(self, game, rounds, winner):
        self.assertEqual(game_winner(game, rounds), winner)
        self.assertEqual(plain_game_winner(game, rounds, []), winner)

    def test_no_rounds(self):
        for turns in ("w", "s", "wsws"):
            for bit in (False, True):
                self.assert_winner((1, [bit], turns, [CHOSEN], SAME), 0, "wisher" if bit else "spoiler")
                self.assert_winner((1, [bit], turns, [CHOSEN], TURNED), 0, "spoiler" if bit else "wisher")

    def test_the_state_stays(self):
        for rounds in range(5):
            self.assert_winner((1, [True], "s", [SAME], SAME), rounds, "wisher")
            self.assert_winner((1, [False], "w", [SAME], SAME), rounds, "spoiler")

    def test_the_state_turns_about_with_each_round(self):
        for rounds in range(5):
            self.assert_winner((1, [True], "w", [TURNED], SAME), rounds, "spoiler" if rounds % 2 else "wisher")

    def test_the_last_choice_tells(self):
        for rounds in range(1, 5):
            self.assert_winner((1, [False], "w", [CHOSEN], SAME), rounds, "wisher")
            self.assert_winner((1, [True], "s", [CHOSEN], SAME), rounds, "spoiler")
            self.assert_winner((1, [True], "ws", [CHOSEN], SAME), rounds, "wisher")
            self.assert_winner((1, [True], "sw", [CHOSEN], SAME), rounds, "spoiler")
            self.assert_winner((1, [True], "sw", [[("in", 3)]], SAME), rounds, "wisher")

    def test_a_choice_goes_by_what_was_chosen_ahead(self):
        # The bit is turned about where the two choices are unlike: the second one has its way.
        nexts = [[("in", 2), ("in", 3), ("or", 0, 1), ("and", 0, 1), ("not", 3), ("and", 2, 4)]]
        for rounds in range(1, 5):
            self.assert_winner((1, [False], "sw", nexts, SAME), rounds, "wisher")
            self.assert_winner((1, [False], "ws", nexts, SAME), rounds, "spoiler")

    def test_all_bits_change_at_once(self):
        # The two bits change places: neither goes by what the other has become.
        game = (2, [True, False], "w", [[("in", 2)], [("in", 1)]], [("in", 1)])
        for rounds in range(5):
            self.assert_winner(game, rounds, "spoiler" if rounds % 2 else "wisher")

    def test_a_count_of_rounds(self):
        # Bits of a number that a yes of the wisher's lets go on by one: good where it is 3.
        carry = [("in", 1), ("in", 3), ("and", 0, 1)]
        other = [("in", 2), ("or", 2, 3), ("and", 2, 3), ("not", 5), ("and", 4, 6)]
        first = [("in", 1), ("in", 3), ("or", 0, 1), ("and", 0, 1), ("not", 3), ("and", 2, 4)]
        game = (2, [False, False], "w", [first, carry + other], [("in", 1), ("in", 2), ("and", 0, 1)])
        for rounds in range(5):
            self.assert_winner(game, rounds, "wisher" if rounds >= 3 else "spoiler")
            self.assert_winner(game[:2] + ("s",) + game[3:], rounds, "spoiler")

    def test_against_a_plain_walk(self):
        seen = {}
        for game, rounds in drawn_games(80, 250, 7, 8):
            ahead = copy.deepcopy(game)
            winner = plain_game_winner(game, rounds, [])
            self.assertEqual(game_winner(game, rounds), winner)
            self.assertEqual(game, ahead)
            seen[rounds, winner] = seen.get((rounds, winner), 0) + 1
        self.assertEqual(len(seen), 10)
        self.assertGreater(min(seen.values()), 5, seen)

    def test_twelve_choices(self):
        draw = random.Random(81)
        for turns, rounds in (("wsws", 3), ("sww", 4), ("www", 4), ("ssss", 3)):
            nexts = [dense_form(draw, 2 + len(turns), 8) for k in range(2)]
            game = (2, [True, False], turns, nexts, dense_form(draw, 2, 5))
            self.assert_winner(game, rounds, form_winner(*unrolled_game(game, rounds)))

    def test_sixteen_choices(self):
        draw = random.Random(82)
        nexts = [dense_form(draw, 10, 40) for k in range(6)]
        game = (6, [True] * 6, "wsws", nexts, dense_form(draw, 6, 40))
        turns, nodes = unrolled_game(game, 4)
        self.assertEqual(len(turns), 16)
        self.assertIn(game_winner(game, 4), ("wisher", "spoiler"))
        self.assertEqual(game_winner(game, 2), plain_game_winner(game, 2, []))


class UnrolledGameTest(unittest.TestCase):
    def assert_unrolled(self, game, rounds):
        ahead = copy.deepcopy(game)
        told = unrolled_game(game, rounds)
        self.assertIs(type(told), tuple)
        turns, nodes = told
        self.assertEqual(turns, game[2] * rounds)
        self.assertIs(is_form(nodes, len(turns)), True)
        self.assertLessEqual(len(nodes), 2000)
        self.assertEqual(game, ahead)
        return turns, nodes

    def test_it_comes_true_just_where_the_last_state_is_good(self):
        seen = []
        for game, rounds in drawn_games(83, 200, 7, 6) + drawn_games(84, 12, 12, 10):
            turns, nodes = self.assert_unrolled(game, rounds)
            for choices in all_fillings(len(turns)):
                good = plain_form_true(game[4], plain_last_state(game, choices))
                self.assertIs(form_true(nodes, choices), good)
                seen.append(good)
        self.assertGreater(min(seen.count(True), seen.count(False)), 500)

    def test_good_told_by_a_single_bit(self):
        # Here the node that tells it stands anywhere, but the form is its last one.
        for bits in (1, 2, 3):
            for bit in range(1, bits + 1):
                for first in all_fillings(bits):
                    nexts = [[("in", k % bits + 1)] for k in range(1, bits + 1)]
                    game = (bits, first, "w", nexts, [("no",), ("yes",), ("in", bit)])
                    for rounds in range(5):
                        turns, nodes = self.assert_unrolled(game, rounds)
                        self.assertIs(form_true(nodes, [True] * rounds), first[(bit - 1 + rounds) % bits])

    def test_good_whatever_the_state_is(self):
        for rounds in range(5):
            for good, winner in (([("yes",)], "wisher"), ([("no",)], "spoiler"), ([("in", 1), ("yes",)], "wisher")):
                turns, nodes = self.assert_unrolled((1, [True], "ws", [CHOSEN], good), rounds)
                self.assertEqual(form_winner(turns, nodes), winner)

    def test_no_rounds(self):
        for bit in (False, True):
            turns, nodes = self.assert_unrolled((1, [bit], "wsw", [CHOSEN], SAME), 0)
            self.assertEqual(turns, "")
            self.assertIs(form_true(nodes, []), bit)

    def test_the_same_hand_wins(self):
        winners = []
        for game, rounds in drawn_games(85, 120, 6, 6):
            turns, nodes = self.assert_unrolled(game, rounds)
            winners.append(game_winner(game, rounds))
            self.assertEqual(form_winner(turns, nodes), winners[-1])
            if len(nodes) < 20:
                self.assertEqual(winner_of(clauses_of(turns, nodes)), winners[-1])
        self.assertGreater(min(winners.count("wisher"), winners.count("spoiler")), 20)

    def test_at_most_two_thousand_nodes_at_the_bounds(self):
        draw = random.Random(86)
        for bits in (1, 6):
            nexts = [dense_form(draw, bits + 4, 40) for k in range(bits)]
            game = (bits, [True] * bits, "wssw", nexts, dense_form(draw, bits, 40))
            for rounds in (0, 1, 4):
                turns, nodes = self.assert_unrolled(game, rounds)
                for k in range(20):
                    choices = [draw.choice((False, True)) for sign in turns]
                    good = plain_form_true(game[4], plain_last_state(game, choices))
                    self.assertIs(form_true(nodes, choices), good)

    def test_the_same_question_has_the_same_answer(self):
        for game, rounds in drawn_games(87, 20, 7, 8):
            told = unrolled_game(game, rounds)
            ahead = copy.deepcopy(told)
            told[1].append(None)
            told[1].reverse()
            self.assertEqual(unrolled_game(copy.deepcopy(game), rounds), ahead)
            again = unrolled_game(game, rounds)
            game[1].reverse()
            game[3].clear()
            game[4].clear()
            self.assertEqual(again, ahead)


GAME = (2, [True, False], "ws", [[("in", 3)], [("in", 4), ("not", 0)]], [("in", 1), ("in", 2), ("or", 0, 1)])


class NoFormTest(unittest.TestCase):
    def assert_no_game(self, thing):
        ahead = copy.deepcopy(thing)
        for rounds in (0, 1, 4, -1, 5, MANY_FIGURES, -MANY_FIGURES, TOO_MANY_TO_WRITE):
            for question in (game_winner, unrolled_game):
                with self.assertRaises(NoForm) as taken:
                    question(thing, rounds)
                self.assertIs(type(taken.exception), NoForm)
        self.assertEqual(thing, ahead)

    def assert_no_part(self, place, things):
        for thing in things:
            self.assert_no_game(GAME[:place] + (thing,) + GAME[place + 1:])

    def test_a_game(self):
        for rounds in range(5):
            self.assertIn(game_winner(GAME, rounds), ("wisher", "spoiler"))

    def test_things_of_other_kinds(self):
        for thing in (None, True, False, 0, 1, MANY_FIGURES, "", "ws", (), [], (GAME,), [GAME], list(GAME), GAME[:4],
                      GAME[1:], GAME + (None,), GAME + GAME, GAME[::-1], (None,) * 5, (1,) * 5, ([],) * 5):
            self.assert_no_game(thing)

    def test_bits(self):
        self.assert_no_part(0, (None, True, False, "2", "", (2,), [2], [], 0, -1, -2, 1, 3, 7, MANY_FIGURES,
                                -MANY_FIGURES, TOO_MANY_TO_WRITE))
        # One bit is told by 1, but True is no number.
        one = (1, [True], "w", [SAME], SAME)
        self.assertEqual(game_winner(one, 1), "wisher")
        self.assert_no_game((True,) + one[1:])

    def test_from_one_to_six_bits(self):
        for bits in (1, 2, 5, 6, 0, 7, 8, -1):
            game = (bits, [True] * bits, "w", [[("in", 1)]] * bits, [("yes",)])
            if 1 <= bits <= 6:
                self.assertEqual(game_winner(game, 2), "wisher")
                self.assertEqual(unrolled_game(game, 2)[0], "ww")
            else:
                self.assert_no_game(game)

    def test_the_first_state(self):
        self.assert_no_part(1, (None, True, "", "10", 2, (), (True, False), [], [True], [True] * 3, [True, None],
                                [True, 0], [1, 0], [1, True], [[True], [False]], [True, "no"], [(), True], [[True,
                                False]]))

    def test_the_turns(self):
        self.assert_no_part(2, (None, True, 2, "", "W", "w ", "wx", "ws\n", "-", "w,s", ["w", "s"], ("w", "s"), [], (),
                                "wswsw", "w" * 5, "s" * 40))
        # No choices are too few and five too many, though the forms could do with them.
        for turns in all_turns(0) + all_turns(5) + ["w" * 40]:
            self.assert_no_game((1, [True], turns, [SAME], SAME))
        for turns in all_turns(1) + all_turns(2) + all_turns(4):
            game = (1, [True], turns, [[("in", 1 + len(turns))]], SAME)
            self.assertIn(game_winner(game, 1), ("wisher", "spoiler"))

    def test_the_nexts(self):
        form = [("in", 3)]
        self.assert_no_part(3, (
            None, 0, "", (), [], [form], [form] * 3, (form, form), [form, []], [[], form], [form, None], [form, ()],
            [tuple(form), form], form, [form, [form]], [form, [["in", 3]]], [form, [("in", 5)]], [[("in", 5)], form],
            [form, [("in", 0)]], [form, [("not", 0)]], [form, [("in", True)]], [form, [("yes",), ("and", 0, 1)]],
            [form, ("in", 3)], [form, "in 3"],
        ))

    def test_the_nexts_go_as_far_as_the_choices(self):
        for count in range(1, 5):
            for variable in range(-1, 9):
                game = (2, [True, True], "w" * count, [[("in", 1)], [("in", variable)]], [("in", 2)])
                if 1 <= variable <= 2 + count:
                    self.assertEqual(game_winner(game, 1), "wisher")
                else:
                    self.assert_no_game(game)

    def test_good(self):
        self.assert_no_part(4, (
            None, True, 0, "", "yes", (), [], ("yes",), (("yes",),), ["yes"], [["yes"]], [[("yes",)]], [("in", 3)],
            [("in", 4)], [("in", 0)], [("in", -1)], [("in", MANY_FIGURES)], [("in", True)], [("not", 0)],
            [("in", 1), ("and", 0, 1)], [("in", 1), ("or", 0, True)], [("yes", 0)],
        ))


class TooManyTest(unittest.TestCase):
    def test_rounds_out_of_range(self):
        for game in (GAME, (1, [True], "w", [SAME], SAME)):
            for rounds in (-1, -2, -4, 5, 6, 12, 100, MANY_FIGURES, -MANY_FIGURES, TOO_MANY_TO_WRITE,
                           -TOO_MANY_TO_WRITE):
                ahead = copy.deepcopy(game)
                for question in (game_winner, unrolled_game):
                    with self.assertRaises(TooMany) as taken:
                        question(game, rounds)
                    self.assertIs(type(taken.exception), TooMany)
                self.assertEqual(game, ahead)

    def test_rounds_in_range(self):
        for rounds in range(5):
            self.assertEqual(len(unrolled_game(GAME, rounds)[0]), 2 * rounds)
            self.assertEqual(game_winner(GAME, rounds), plain_game_winner(GAME, rounds, []))


if __name__ == "__main__":
    unittest.main()
