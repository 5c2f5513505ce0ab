"""Point 15: whole papers, and that there is one just of the hand that wins."""

import itertools
import random
import unittest

from oathduel.errors import BadLine
from oathduel.papers import is_whole, sets_of
from tests.samples import (
    all_sets, drawn_sentences, other_of, plain_winner, small_sentences, tiny_sentences, whole_paper,
)

HANDS = ("wisher", "spoiler")


class IsWholeTest(unittest.TestCase):
    def assert_told(self, answer, sentence, hand, lines):
        self.assertIs(is_whole(sentence, (hand, lines)), answer, lines)

    def test_a_whole_paper_of_the_spoiler(self):
        sentence = ("wsw", [(1, 2, 3), (1, -3), (-1, 2)])
        lines = [
            ("given", 0), ("given", 1), ("join", 0, 1, 3), ("drop", 2), ("given", 2), ("drop", 4), ("join", 3, 5, 1),
        ]
        self.assert_told(True, sentence, "spoiler", lines)
        for length in range(7):
            self.assert_told(False, sentence, "spoiler", lines[:length])

    def test_a_whole_paper_of_the_wisher(self):
        sentence = ("sw", [(1, -2), (-1, 2)])
        lines = [("hits", (1, 2)), ("drop", 0), ("hits", (-1, -2)), ("drop", 2), ("join", 1, 3, 1)]
        self.assert_told(True, sentence, "wisher", lines)
        for length in range(5):
            self.assert_told(False, sentence, "wisher", lines[:length])

    def test_of_one_line(self):
        self.assert_told(True, ("ws", [(1,), ()]), "spoiler", [("given", 1)])
        self.assert_told(False, ("ws", [(1,), ()]), "spoiler", [("given", 0)])
        self.assert_told(True, ("ws", []), "wisher", [("hits", ())])
        self.assert_told(False, ("ws", []), "wisher", [("hits", (1,))])
        self.assert_told(True, ("", [()]), "spoiler", [("given", 0)])
        self.assert_told(True, ("", []), "wisher", [("hits", ())])

    def test_drops_of_the_hands_own_literals_alone(self):
        self.assert_told(True, ("ss", [(1, -2)]), "spoiler", [("given", 0), ("drop", 0)])
        self.assert_told(False, ("ws", [(1, -2)]), "spoiler", [("given", 0), ("drop", 0)])
        self.assert_told(False, ("sw", [(1, -2)]), "spoiler", [("given", 0), ("drop", 0)])
        self.assert_told(True, ("ww", [(1, -2)]), "wisher", [("hits", (-2,)), ("drop", 0)])
        self.assert_told(False, ("ss", [(1, -2)]), "wisher", [("hits", (-2,)), ("drop", 0)])

    def test_not_where_the_last_set_is_not_empty_though_an_earlier_one_is(self):
        sentence = ("s", [(1,), ()])
        self.assert_told(True, sentence, "spoiler", [("given", 0), ("drop", 0)])
        self.assert_told(False, sentence, "spoiler", [("given", 0), ("drop", 0), ("given", 0)])
        self.assert_told(False, sentence, "spoiler", [("given", 1), ("given", 0)])
        self.assert_told(True, sentence, "spoiler", [("given", 1), ("given", 0), ("given", 1)])
        self.assert_told(False, ("w", []), "wisher", [("hits", ()), ("hits", (1,))])
        self.assert_told(True, ("w", []), "wisher", [("hits", ()), ("hits", (1,)), ("drop", 1)])

    def test_not_where_a_line_is_bad(self):
        for bad in (None, (), ("given", 2), ("given", -1), ("drop", -1), ("join", 0, 0, 1), ("hits", ()), ["given", 1]):
            self.assert_told(False, ("s", [(1,), ()]), "spoiler", [bad])
            self.assert_told(False, ("s", [(1,), ()]), "spoiler", [bad, ("given", 1)])
            self.assert_told(False, ("s", [(1,), ()]), "spoiler", [("given", 1), bad])
            self.assert_told(False, ("s", [(1,), ()]), "spoiler", [("given", 1), bad, ("given", 1)])
        for bad in (None, (), ("hits", (2,)), ("hits", []), ("drop", -1), ("join", 0, 0, 1), ("given", 0)):
            self.assert_told(False, ("w", []), "wisher", [bad])
            self.assert_told(False, ("w", []), "wisher", [("hits", ()), bad, ("hits", ())])
            self.assert_told(False, ("w", []), "wisher", [("hits", ()), bad])

    def test_not_where_there_is_no_line(self):
        for sentence in (("", []), ("", [()]), ("w", []), ("s", [()]), ("ws", [(1,), (2,)])):
            for hand in HANDS:
                self.assert_told(False, sentence, hand, [])


class JustWhereTheHandWinsTest(unittest.TestCase):
    """Against the plain walk through all fillings that is written in tests/samples.py."""

    def test_the_hand_that_wins_has_a_whole_paper(self):
        for sentence in small_sentences() + drawn_sentences(211, 40, (6, 7), 12):
            paper = whole_paper(sentence)
            self.assertEqual(paper[0], plain_winner(sentence, []))
            self.assertIs(is_whole(sentence, paper), True, (sentence, paper))

    def test_the_lines_of_a_whole_paper_are_none_of_the_other_hand(self):
        for sentence in small_sentences():
            hand, lines = whole_paper(sentence)
            self.assertIs(is_whole(sentence, (other_of(hand), lines)), False)

    def first_lines(self, sentence, hand):
        if hand == "spoiler":
            return [("given", place) for place in range(len(sentence[1]))]
        return [("hits", literals) for literals in all_sets(len(sentence[0]))]

    def lines_by(self, sentence, sets, place):
        """Drops of the line, and joins of it with lines ahead by each variable that stands both ways, whosever."""
        joins = [
            ("join", first, second, abs(literal))
            for number in range(place)
            for literal in sets[place] if -literal in sets[number]
            for first, second in ((place, number), (number, place))
        ]
        return [("drop", place)] + joins

    def set_of(self, sentence, hand, lines, line):
        try:
            return sets_of(sentence, (hand, lines + [line]))[-1]
        except BadLine:
            return None

    def all_sets_of(self, sentence, hand):
        """All the sets that lines of the hand's papers can come to."""
        lines = []
        sets = []
        waiting = self.first_lines(sentence, hand)
        while waiting:
            line = waiting.pop(0)
            literals = self.set_of(sentence, hand, lines, line)
            if literals is not None and literals not in sets:
                lines.append(line)
                sets.append(literals)
                waiting += self.lines_by(sentence, sets, len(lines) - 1)
        return sets

    def assert_just_the_winner(self, sentence):
        winner = plain_winner(sentence, [])
        for hand in HANDS:
            self.assertIs(() in self.all_sets_of(sentence, hand), hand == winner, (sentence, hand))

    def test_no_line_of_any_paper_of_the_hand_that_loses_comes_to_the_empty_set(self):
        for sentence in tiny_sentences() + drawn_sentences(7, 60, (3,), 6):
            self.assert_just_the_winner(sentence)

    def test_longer_clauses(self):
        draw = random.Random(131)
        threes = [signs for signs in itertools.product((1, -1), (2, -2), (3, -3))]
        for turns in ("www", "wsw", "sws", "wss", "ssw", "sww"):
            for k in range(6):
                self.assert_just_the_winner((turns, draw.sample(threes + [(1,), (-2, 3), (2,)], 6)))


if __name__ == "__main__":
    unittest.main()
