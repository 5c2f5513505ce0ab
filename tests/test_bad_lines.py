"""Point 14: bad lines, and the place that is told of the first one."""

import random
import unittest

from oathduel.errors import BadLine
from oathduel.papers import is_whole, sets_of
from oathduel.plans import plan_of
from tests.samples import MANY_FIGURES, TOO_MANY_TO_WRITE, drawn_sentences, plain_line_set, whole_paper

# In either paper lines 0 to 3 come to these four sets, and 1 and 3 are the variables that can be joined by.
FOUR = [(1, 2, 3), (1, -3), (-1, 2), (-2, -3)]
BEHIND = [("join", 0, 1, 3), ("drop", 4)]
SPOILERS = (("wsw", FOUR), "spoiler", [("given", 0), ("given", 1), ("given", 2), ("given", 3)] + BEHIND)
WISHERS = (("sws", [(2, -3), (1, 2, -3)]), "wisher", [("hits", literals) for literals in FOUR] + BEHIND)

NO_TUPLES = (
    None, True, False, 0, 1, -1, "", "given", "hits", "join", "drop", "drop 0", "given 0", [], ["given", 0],
    ["hits", (1, 2, 3)], ["join", 0, 1, 3], ["drop", 0], [("drop", 0)],
)

NO_WORDS = (
    "", "Given", "Hits", "Join", "Drop", "drop ", " drop", "given\n", "joins", "d", "wisher", "spoiler", None, True,
    False, 0, 1, (), [], ("drop",), ["drop"], ("given", 0), MANY_FIGURES,
)

NO_NUMBERS = (
    None, True, False, "", "0", "1", "3", (), (0,), (1,), [], [0], [3], MANY_FIGURES, -MANY_FIGURES, TOO_MANY_TO_WRITE,
    -TOO_MANY_TO_WRITE, -1, -2, -3, -4, -5, -6, -7,
)

NO_LITERALS = (
    None, True, False, 0, 1, 2, "", "2", "12", [], [2], [1, 2, 3], [1, -3], ((1, 2),), ([1, 2],), ("2",), (1, "2"),
    (1, None), (None, 2), (0, 2), (2, 0), (True, 2), (True, -3), (False, 2), (2, True), (2, 1), (-3, 1), (2, -1),
    (3, 2, 1), (1, 1, 2), (2, 2), (1, -1, 2), (2, -2), (2, 3, -3), (1, 2, 4), (-3, 4), (2, -4), (2, MANY_FIGURES),
    (2, -MANY_FIGURES), (-MANY_FIGURES, 2), (2, TOO_MANY_TO_WRITE), (2, 3, 3),
)


def with_line(lines, line, place):
    return lines[:place] + [line] + lines[place:]


class BadLineTest(unittest.TestCase):
    def assert_place(self, sentence, hand, lines, place):
        for question in (sets_of, plan_of):
            with self.assertRaises(BadLine) as taken:
                question(sentence, (hand, lines))
            self.assertEqual(taken.exception.place, place, lines)
        self.assertIs(is_whole(sentence, (hand, lines)), False)

    def assert_bad_for(self, sample, line):
        """The line is bad in the first place, a middle one (behind the four) and the last one."""
        sentence, hand, lines = sample
        for place in (0, 4, 5, 6):
            self.assert_place(sentence, hand, with_line(lines, line, place), place)

    def assert_bad(self, line):
        self.assert_bad_for(SPOILERS, line)
        self.assert_bad_for(WISHERS, line)

    def assert_good(self, sample, line, literals):
        sentence, hand, lines = sample
        self.assertEqual(sets_of(sentence, (hand, lines + [line]))[6], literals)


class BothHandsTest(BadLineTest):
    def test_the_lines_that_the_bad_ones_are_put_among_are_good(self):
        for sentence, hand, lines in (SPOILERS, WISHERS):
            self.assertEqual(sets_of(sentence, (hand, lines))[:5], FOUR + [(1, 2)])

    def test_the_good_lines_that_the_bad_ones_are_like(self):
        for sample in (SPOILERS, WISHERS):
            self.assert_good(sample, ("join", 0, 1, 3), (1, 2))
            self.assert_good(sample, ("join", 1, 2, 1), (2, -3))
            self.assert_good(sample, ("join", 0, 2, 1), (2, 3))
            self.assert_good(sample, ("drop", 0), (1, 2, 3))
            self.assert_good(sample, ("drop", 1), (1, -3))
            self.assert_good(sample, ("drop", 2), (-1,))
            self.assert_good(sample, ("drop", 5), (1,))
        self.assert_good(SPOILERS, ("given", 1), (1, -3))
        self.assert_good(WISHERS, ("hits", (1, 2)), (1, 2))

    def test_what_is_no_tuple(self):
        for line in NO_TUPLES:
            self.assert_bad(line)

    def test_another_word(self):
        for word in NO_WORDS:
            for line in ((word,), (word, 0), (word, (1, 2, 3)), (word, 0, 1, 3)):
                self.assert_bad(line)

    def test_the_other_hands_word(self):
        for place in (0, 1, 3):
            self.assert_bad_for(WISHERS, ("given", place))
        for literals in ((2, -3), (1, 2, 3), (1, -2), (1, 2, -3)):
            self.assert_bad_for(SPOILERS, ("hits", literals))
        # This one would hit each of the spoiler's clauses.
        self.assert_bad_for(SPOILERS, ("hits", (-1, -2, -3)))

    def test_a_part_more_or_fewer(self):
        lines = (
            (), ("given",), ("given", 0, 0), ("given", 0, None), ("given", 0, 1, 3), ("hits",), ("hits", (1, 2, 3), ()),
            ("hits", (1, 2, 3), 0), ("hits", 1, 2, 3), ("hits", 1, 2), ("join",), ("join", 0), ("join", 0, 1),
            ("join", 0, 1, 3, 3), ("join", 0, 1, 3, None), ("join", (0, 1, 3)), ("join", 0, 1, 3, 0, 1, 3),
            ("drop",), ("drop", 0, 0), ("drop", 0, None), ("drop", 0, 1, 3),
        )
        for line in lines:
            self.assert_bad(line)

    def test_drops_of_what_is_no_line_ahead(self):
        for number in NO_NUMBERS + (7, 8, 100, 1999, 2000):
            self.assert_bad(("drop", number))

    def test_joins_of_what_is_no_line_ahead(self):
        for number in NO_NUMBERS + (7, 8, 100, 1999, 2000):
            self.assert_bad(("join", number, 1, 3))
            self.assert_bad(("join", 0, number, 3))
            self.assert_bad(("join", number, number, 3))
            self.assert_bad(("join", number, 2, 1))

    def test_true_and_false_are_no_numbers(self):
        for line in (
            ("join", False, True, 3), ("join", False, 1, 3), ("join", 0, True, 3), ("join", True, 2, 1),
            ("join", 1, 2, True), ("join", 0, 2, True), ("drop", True), ("drop", False), ("given", True),
            ("given", False),
        ):
            self.assert_bad(line)

    def test_its_own_place_and_those_behind_it(self):
        for sentence, hand, lines in (SPOILERS, WISHERS):
            for place in range(7):
                for number in (place, place + 1, place + 2):
                    for line in (("drop", number), ("join", number, 1, 3), ("join", 0, number, 3)):
                        self.assert_place(sentence, hand, with_line(lines, line, place), place)

    def test_joins_by_a_variable_of_the_other_kind(self):
        # What these would come to, (-1, -3) and (1, 3, -3), has a variable both ways in the latter alone.
        self.assert_bad(("join", 2, 3, 2))
        self.assert_bad(("join", 0, 3, 2))
        # By the other hand's turns the former is as good as any.
        sets = sets_of(("sws", FOUR), ("spoiler", SPOILERS[2][:4] + [("join", 2, 3, 2)]))
        self.assertEqual(sets[4], (-1, -3))

    def test_joins_by_a_variable_that_is_not_in_the_sets_so(self):
        for line in (
            ("join", 1, 0, 3), ("join", 2, 1, 1), ("join", 0, 2, 3), ("join", 2, 1, 3), ("join", 0, 0, 3),
            ("join", 1, 1, 3), ("join", 2, 2, 1), ("join", 0, 1, 1), ("join", 3, 3, 1), ("join", 3, 0, 3),
        ):
            self.assert_bad(line)

    def test_joins_by_what_is_no_variable(self):
        for variable in NO_NUMBERS + (0, 4, 5, 41):
            self.assert_bad(("join", 0, 1, variable))
            self.assert_bad(("join", 1, 0, variable))
            self.assert_bad(("join", 1, 2, variable))
            self.assert_bad(("join", 2, 1, variable))

    def test_joins_by_the_opposite(self):
        self.assert_bad(("join", 1, 0, -3))
        self.assert_bad(("join", 2, 1, -1))
        self.assert_bad(("join", 0, 1, -3))

    def test_joins_that_leave_a_variable_both_ways(self):
        self.assert_bad(("join", 0, 3, 3))
        turns = "wsws"
        for first, second in (((1, 2, 3), (-1, -3)), ((1, 3), (-1, 2, -3)), ((-2, 3), (2, -3)), ((3, 4), (-3, -4)),
                              ((3, -4), (-1, -3, 4)), ((1, -2, 3, 4), (-1, 2, -3, -4))):
            lines = [("given", 0), ("given", 1), ("join", 0, 1, 3)]
            self.assert_place((turns, [first, second]), "spoiler", lines, 2)
            lines = [("hits", first), ("hits", second), ("join", 0, 1, 3)]
            self.assert_place(("swsw", []), "wisher", lines, 2)

    def test_the_first_of_two_bad_lines(self):
        for sentence, hand, lines in (SPOILERS, WISHERS):
            for first in range(7):
                for second in range(first + 1, 8):
                    two = with_line(with_line(lines, ("drop", -1), first), None, second)
                    self.assert_place(sentence, hand, two, first)
                    two = with_line(with_line(lines, None, first), ("drop", -1), second)
                    self.assert_place(sentence, hand, two, first)

    def test_all_lines_bad(self):
        for sentence, hand, lines in (SPOILERS, WISHERS):
            self.assert_place(sentence, hand, list(NO_TUPLES), 0)
            self.assert_place(sentence, hand, lines + list(NO_TUPLES), 6)

    def test_a_bad_line_behind_and_ahead_of_the_empty_set(self):
        for sentence, hand, word in ((("w", [()]), "spoiler", ("given", 0)), (("w", []), "wisher", ("hits", ()))):
            self.assert_place(sentence, hand, [word, None], 1)
            self.assert_place(sentence, hand, [None, word], 0)
            self.assert_place(sentence, hand, [word, None, word], 1)

    def test_a_bad_line_far_behind(self):
        sentence, hand, lines = SPOILERS
        self.assert_place(sentence, hand, [("given", 0)] * 1999 + [("given", 4)], 1999)


class SpoilersLinesTest(BadLineTest):
    def test_given_that_names_no_clause(self):
        for number in NO_NUMBERS + (4, 5, 6, 200):
            self.assert_bad_for(SPOILERS, ("given", number))

    def test_given_where_there_are_no_clauses(self):
        for turns in ("", "w", "ws"):
            for number in (0, 1, -1):
                self.assert_place((turns, []), "spoiler", [("given", number)], 0)

    def test_nothing_but_given_can_be_the_first(self):
        for line in (("drop", 0), ("join", 0, 0, 1), ("join", 0, 1, 3), ("hits", ())):
            self.assert_place(("w", []), "spoiler", [line], 0)
            self.assert_place(("w", [()]), "spoiler", [line], 0)


class WishersLinesTest(BadLineTest):
    def test_literals_that_are_no_set_of_the_variables(self):
        for literals in NO_LITERALS:
            self.assert_bad_for(WISHERS, ("hits", literals))

    def test_literals_that_are_no_set_where_there_are_no_clauses_to_miss(self):
        for literals in NO_LITERALS:
            self.assert_place(("sws", []), "wisher", [("hits", literals)], 0)

    def test_literals_that_miss_a_clause(self):
        for literals in ((), (1,), (-1,), (-2,), (3,), (1, 3), (1, -2), (-1, -2, 3)):
            self.assert_bad_for(WISHERS, ("hits", literals))

    def test_the_first_a_middle_or_the_last_clause_missed(self):
        clauses = [(1, 2), (-2, 3), (1, 3)]
        self.assertEqual(sets_of(("wsw", clauses), ("wisher", [("hits", (1, 3))])), [(1, 3)])
        for literals in ((-2, 3), (1, 2), (2,), (2, -3), (1, 2, -3), (1,), (3,), (-1, 2, 3), (-1, -2), (-1, -2, -3)):
            missed = [clause for clause in clauses if not set(clause) & set(literals)]
            lines = [("hits", (1, 3)), ("hits", literals), ("drop", 0)]
            if missed:
                self.assert_place(("wsw", clauses), "wisher", lines, 1)
            else:
                self.assertEqual(sets_of(("wsw", clauses), ("wisher", lines))[1], literals)

    def test_an_empty_clause_is_always_missed(self):
        for literals in ((), (1,), (-1, 2), (1, 2)):
            self.assert_place(("ws", [()]), "wisher", [("hits", literals)], 0)
            self.assert_place(("ws", [(1,), (), (2,)]), "wisher", [("hits", literals)], 0)

    def test_literals_where_there_are_no_variables(self):
        for literals in ((1,), (-1,), (0,), (True,), [], None):
            self.assert_place(("", []), "wisher", [("hits", literals)], 0)


class DrawnLinesTest(unittest.TestCase):
    def drawn_line(self, draw, sentence, lines):
        literals = tuple(
            variable * draw.choice((1, -1)) for variable in range(1, len(sentence[0]) + 1) if draw.random() < 0.8
        )
        numbers = range(-1, len(lines) + 1)
        variables = range(-1, len(sentence[0]) + 2)
        return draw.choice((
            ("given", draw.randint(-1, len(sentence[1]))), ("hits", literals), ("drop", draw.choice(numbers)),
            ("join", draw.choice(numbers), draw.choice(numbers), draw.choice(variables)),
            ("join", draw.choice(numbers), draw.choice(numbers), draw.choice(variables)),
        ))

    def assert_told(self, sentence, hand, lines):
        """What is told of the lines is as the words have it, line by line."""
        sets = []
        for line in lines:
            sets.append(plain_line_set(sentence, hand, line, sets))
        if None not in sets:
            self.assertEqual(sets_of(sentence, (hand, lines)), sets)
            return
        with self.assertRaises(BadLine) as taken:
            sets_of(sentence, (hand, lines))
        self.assertEqual(taken.exception.place, sets.index(None), (sentence, hand, lines))

    def test_drawn_papers(self):
        draw = random.Random(97)
        for sentence in drawn_sentences(41, 300, (2, 3, 4), 5):
            for hand in ("wisher", "spoiler"):
                lines = []
                sets = []
                for k in range(60):
                    line = self.drawn_line(draw, sentence, lines)
                    literals = plain_line_set(sentence, hand, line, sets)
                    self.assert_told(sentence, hand, lines + [line])
                    if literals is not None:
                        lines.append(line)
                        sets.append(literals)

    def test_whole_papers_with_one_line_changed(self):
        draw = random.Random(53)
        for sentence in drawn_sentences(19, 300, (2, 3, 4), 6):
            hand, lines = whole_paper(sentence)
            for place in range(len(lines)):
                changed = list(lines)
                changed[place] = self.drawn_line(draw, sentence, lines[:place])
                self.assert_told(sentence, hand, changed)
            self.assert_told(sentence, "spoiler" if hand == "wisher" else "wisher", lines)


if __name__ == "__main__":
    unittest.main()
