"""Points 22 and 23: the lines that a paper needs, papers made shorter, and the clauses that a paper tells besides."""

import random
import unittest

from oathduel.errors import BadLine, NoHand, NotWhole
from oathduel.papers import is_whole
from oathduel.plans import plan_of
from oathduel.search import Searcher, settled_paper
from oathduel.sentences import is_sentence
from oathduel.shorter import joined_clauses, needed_lines, shortened_paper
from tests.samples import (
    MANY_FIGURES, drawn_sentences, padded_paper, plain_sets, plain_winner, plan_wins, small_sentences, spoilers_paper,
    whole_paper,
)

SPOILERS = ("ws", [(1, 2), (-1, -2)])
WISHERS = ("sw", [(1, -2), (-1, 2)])


def plainly_named(line):
    return line[1:{"join": 3, "drop": 2}.get(line[0], 1)]


def plainly_needed(lines, place):
    """The places that a line needs, itself among them, by asking each that it names."""
    places = {place}
    for named in plainly_named(lines[place]):
        places |= plainly_needed(lines, named)
    return places


def plainly_shortened(sentence, paper):
    """As point 22 tells it, word by word."""
    sets = plain_sets(sentence, paper)
    stand_ins = [
        line[:1] + tuple(sets.index(sets[named]) for named in plainly_named(line)) + line[1 + len(plainly_named(line)):]
        for line in paper[1]
    ]
    places = sorted(plainly_needed(stand_ins, sets.index(())))
    return (paper[0], [
        stand_ins[place][:1]
        + tuple(places.index(named) for named in plainly_named(stand_ins[place]))
        + stand_ins[place][1 + len(plainly_named(stand_ins[place])):]
        for place in places
    ])


def padded_papers():
    draw = random.Random(313)
    return [
        (sentence, padded_paper(draw, sentence))
        for sentence in small_sentences()[::2] + drawn_sentences(314, 40, (6, 7), 9)
    ]


class NeededLinesTest(unittest.TestCase):
    def test_where_all_are_needed(self):
        lines = [("given", 0), ("drop", 0), ("given", 1), ("drop", 2), ("join", 1, 3, 1)]
        self.assertEqual(needed_lines(SPOILERS, ("spoiler", lines)), [0, 1, 2, 3, 4])
        lines = [("hits", (1, 2)), ("drop", 0), ("hits", (-1, -2)), ("drop", 2), ("join", 1, 3, 1)]
        self.assertEqual(needed_lines(WISHERS, ("wisher", lines)), [0, 1, 2, 3, 4])

    def test_where_few_are_needed(self):
        lines = [("given", 0), ("given", 1), ("drop", 0), ("given", 2), ("drop", 1), ("given", 0)]
        self.assertEqual(needed_lines(("ws", [(1, 2), (-1,), ()]), ("spoiler", lines + [("given", 2)])), [6])
        self.assertEqual(needed_lines(("ws", [(1, 2), (-1,), ()]), ("spoiler", lines + [("drop", 3)])), [3, 6])
        lines = [("hits", (1,)), ("hits", (-1, 2)), ("drop", 1), ("hits", (2,)), ("drop", 3)]
        self.assertEqual(needed_lines(("sw", []), ("wisher", lines)), [3, 4])
        self.assertEqual(needed_lines(("sw", []), ("wisher", lines + [("hits", ())])), [5])
        self.assertEqual(needed_lines(("sw", []), ("wisher", lines + [("join", 0, 2, 1)])), [0, 1, 2, 5])

    def test_lines_that_are_alike_count_each_by_its_place(self):
        lines = [
            ("given", 0), ("given", 0), ("drop", 1), ("drop", 0), ("given", 1), ("drop", 4), ("drop", 4),
            ("join", 2, 6, 1), ("join", 3, 6, 1),
        ]
        self.assertEqual(needed_lines(SPOILERS, ("spoiler", lines)), [0, 3, 4, 6, 8])
        self.assertEqual(needed_lines(SPOILERS, ("spoiler", lines[:8])), [1, 2, 4, 6, 7])

    def test_the_last_line_tells_though_the_empty_set_was_there_ahead(self):
        lines = [("given", 0), ("drop", 0), ("drop", 1), ("given", 1), ("drop", 3)]
        self.assertEqual(needed_lines(("ss", [(1,), (-1, 2)]), ("spoiler", lines)), [3, 4])

    def test_a_line_that_two_need_stands_once(self):
        # Line 1 is joined with line 3 and with line 5; what comes of it is joined in turn.
        sentence = ("www", [(1, 2), (-2, 3), (-2, -3), (-1, 2)])
        lines = [
            ("given", 1), ("given", 2), ("join", 0, 1, 3), ("given", 0), ("join", 3, 2, 2), ("given", 3),
            ("join", 5, 2, 2), ("join", 4, 6, 1),
        ]
        self.assertEqual(needed_lines(sentence, ("spoiler", lines)), [0, 1, 2, 3, 4, 5, 6, 7])

    def test_the_numbers_of_given_lines_and_joined_variables_name_no_line(self):
        sentence = ("ww", [(), (2,), (-2,)])
        lines = [("given", 0), ("given", 1), ("given", 2), ("join", 1, 2, 2)]
        self.assertEqual(needed_lines(sentence, ("spoiler", lines)), [1, 2, 3])
        self.assertEqual(needed_lines(sentence, ("spoiler", [("given", 2), ("given", 1), ("given", 0)])), [2])
        self.assertEqual(needed_lines(("ww", []), ("wisher", [("hits", (1,)), ("hits", (1, 2)), ("hits", ())])), [2])

    def test_one_line_alone(self):
        self.assertEqual(needed_lines(("", [()]), ("spoiler", [("given", 0)])), [0])
        self.assertEqual(needed_lines(("", []), ("wisher", [("hits", ())])), [0])

    def test_a_long_row_of_lines(self):
        lines = [("hits", ())] + [("drop", k) for k in range(1999)]
        self.assertTrue(needed_lines(("ws", []), ("wisher", lines)) == list(range(2000)))
        self.assertEqual(needed_lines(("ws", []), ("wisher", lines + [("drop", 1)])), [0, 1, 2000])

    def test_against_a_plain_walk(self):
        fewer = 0
        for sentence, paper in padded_papers():
            told = needed_lines(sentence, paper)
            self.assertEqual(told, sorted(plainly_needed(paper[1], len(paper[1]) - 1)), (sentence, paper))
            fewer += len(told) < len(paper[1])
        self.assertGreater(fewer, 100)


class ShortenedPaperTest(unittest.TestCase):
    def assert_shortened(self, sentence, hand, lines, shorter):
        self.assertEqual(shortened_paper(sentence, (hand, lines)), (hand, shorter))
        self.assertEqual(plainly_shortened(sentence, (hand, lines)), (hand, shorter))

    def test_where_all_are_needed(self):
        lines = [("given", 0), ("drop", 0), ("given", 1), ("drop", 2), ("join", 1, 3, 1)]
        self.assert_shortened(SPOILERS, "spoiler", lines, lines)
        lines = [("hits", (1, 2)), ("drop", 0), ("hits", (-1, -2)), ("drop", 2), ("join", 1, 3, 1)]
        self.assert_shortened(WISHERS, "wisher", lines, lines)

    def test_where_few_are_needed(self):
        lines = [("given", 0), ("given", 1), ("drop", 0), ("given", 2), ("drop", 1), ("given", 2)]
        self.assert_shortened(("ws", [(1, 2), (-1,), ()]), "spoiler", lines, [("given", 2)])
        lines = [("hits", (1,)), ("hits", (-1, 2)), ("drop", 1), ("hits", (2,)), ("drop", 3)]
        self.assert_shortened(("sw", []), "wisher", lines, [("hits", (2,)), ("drop", 0)])
        self.assert_shortened(("sw", []), "wisher", lines[:3] + [("join", 0, 2, 1)],
                              [("hits", (1,)), ("hits", (-1, 2)), ("drop", 1), ("join", 0, 2, 1)])

    def test_lines_get_new_numbers(self):
        lines = [
            ("given", 1), ("drop", 0), ("drop", 1), ("given", 2), ("given", 0), ("drop", 4), ("given", 0),
            ("join", 5, 2, 1),
        ]
        shorter = [("given", 1), ("drop", 0), ("given", 0), ("drop", 2), ("join", 3, 1, 1)]
        self.assert_shortened(("ws", [(1, 2), (-1, -2), (2,)]), "spoiler", lines, shorter)

    def test_the_first_line_of_a_set_stands_for_it(self):
        # Line 3 comes to what line 1 comes to, in another way, so its join needs neither it nor line 2.
        sentence = ("ws", [(1, 2), (1,), (-1,)])
        lines = [("given", 2), ("given", 1), ("given", 0), ("drop", 2), ("join", 3, 0, 1)]
        self.assert_shortened(sentence, "spoiler", lines, [("given", 2), ("given", 1), ("join", 1, 0, 1)])
        lines = [("given", 2), ("given", 0), ("drop", 1), ("given", 1), ("join", 3, 0, 1)]
        shorter = [("given", 2), ("given", 0), ("drop", 1), ("join", 2, 0, 1)]
        self.assert_shortened(sentence, "spoiler", lines, shorter)

    def test_what_stands_in_may_need_more_lines_than_what_it_stands_for(self):
        sentence = ("ww", [(1, 2), (1, -2), (1,), (-1,)])
        lines = [("given", 0), ("given", 1), ("join", 0, 1, 2), ("given", 2), ("given", 3), ("join", 3, 4, 1)]
        self.assertEqual(needed_lines(sentence, ("spoiler", lines)), [3, 4, 5])
        shorter = [("given", 0), ("given", 1), ("join", 0, 1, 2), ("given", 3), ("join", 2, 3, 1)]
        self.assert_shortened(sentence, "spoiler", lines, shorter)

    def test_lines_that_stand_twice(self):
        lines = [
            ("given", 0), ("given", 0), ("drop", 1), ("drop", 0), ("given", 1), ("drop", 4), ("drop", 4),
            ("join", 3, 6, 1), ("join", 2, 6, 1),
        ]
        shorter = [("given", 0), ("drop", 0), ("given", 1), ("drop", 2), ("join", 1, 3, 1)]
        self.assert_shortened(SPOILERS, "spoiler", lines, shorter)

    def test_one_clause_twice(self):
        lines = [("given", 1), ("given", 0), ("given", 2), ("join", 1, 2, 1)]
        self.assert_shortened(("w", [(1,), (1,), (-1,)]), "spoiler", lines,
                              [("given", 1), ("given", 2), ("join", 0, 1, 1)])

    def test_drops_that_take_nothing_out_go(self):
        sentence = ("w", [(1,), (-1,)])
        lines = [
            ("given", 0), ("drop", 0), ("given", 1), ("drop", 2), ("drop", 3), ("join", 1, 4, 1), ("drop", 5),
            ("drop", 6),
        ]
        self.assert_shortened(sentence, "spoiler", lines, [("given", 0), ("given", 1), ("join", 0, 1, 1)])

    def test_the_first_line_that_comes_to_the_empty_set_tells(self):
        lines = [("given", 0), ("drop", 0), ("drop", 1), ("given", 1), ("drop", 3)]
        self.assert_shortened(("ss", [(1,), (-1, 2)]), "spoiler", lines, [("given", 0), ("drop", 0)])
        self.assert_shortened(("ww", []), "wisher", [("hits", (1,)), ("drop", 0), ("hits", ())],
                              [("hits", (1,)), ("drop", 0)])
        self.assert_shortened(("ww", []), "wisher", [("hits", ()), ("hits", (1,)), ("drop", 1)], [("hits", ())])

    def test_hits_of_unlike_literals_are_not_alike(self):
        lines = [("hits", (-1, 2)), ("hits", (1, 2)), ("drop", 0), ("drop", 1), ("join", 3, 2, 1)]
        self.assert_shortened(("sw", []), "wisher", lines, lines)

    def test_one_line_alone(self):
        self.assert_shortened(("", [()]), "spoiler", [("given", 0)], [("given", 0)])
        self.assert_shortened(("", []), "wisher", [("hits", ())], [("hits", ())])

    def test_against_a_plain_walk(self):
        shorter = 0
        for sentence, paper in padded_papers():
            told = shortened_paper(sentence, paper)
            self.assertEqual(told, plainly_shortened(sentence, paper), (sentence, paper))
            shorter += len(told[1]) < len(paper[1])
        self.assertGreater(shorter, 100)

    def test_what_is_told_is_whole_no_longer_and_each_set_once(self):
        for sentence, paper in padded_papers():
            told = shortened_paper(sentence, paper)
            self.assertEqual(told[0], paper[0])
            self.assertIs(is_whole(sentence, told), True)
            self.assertLessEqual(len(told[1]), len(paper[1]))
            sets = plain_sets(sentence, told)
            self.assertNotIn(None, sets)
            self.assertEqual(sets[-1], ())
            self.assertEqual(len(set(sets)), len(sets))

    def test_the_plan_read_off_what_is_told_wins(self):
        for sentence, paper in padded_papers()[::4]:
            told = shortened_paper(sentence, paper)
            self.assertIs(plan_wins(sentence, told[0], plan_of(sentence, told)), True)

    def test_what_is_told_may_be_handed_in_again_and_stays(self):
        for sentence, paper in padded_papers():
            told = shortened_paper(sentence, paper)
            self.assertEqual(shortened_paper(sentence, told), told)
            self.assertEqual(needed_lines(sentence, told), list(range(len(told[1]))))

    def test_papers_of_the_searchers(self):
        for sentence in drawn_sentences(315, 40, (5, 6, 12), 12):
            paper = settled_paper(sentence)
            told = shortened_paper(sentence, paper)
            self.assertIs(is_whole(sentence, told), True)
            self.assertLessEqual(len(told[1]), len(paper[1]))

    def test_a_long_row_of_lines(self):
        lines = [("hits", (1,))] + [("drop", 0)] + [("drop", k) for k in range(1, 1999)]
        self.assert_shortened(("ws", []), "wisher", lines, [("hits", (1,)), ("drop", 0)])


class RefusedTest(unittest.TestCase):
    def assert_bad(self, sentence, paper, place):
        for question in (needed_lines, shortened_paper, plan_of):
            with self.assertRaises(BadLine) as taken:
                question(sentence, paper)
            self.assertIs(type(taken.exception), BadLine)
            self.assertEqual(taken.exception.place, place)

    def assert_not_whole(self, sentence, paper):
        for question in (needed_lines, shortened_paper, plan_of):
            with self.assertRaises(NotWhole) as taken:
                question(sentence, paper)
            self.assertIs(type(taken.exception), NotWhole)

    def test_bad_lines(self):
        good = ("given", 0)
        for lines, place in (
            ([None], 0), ([good, ("drop", 1)], 1), ([("given", 2)], 0), ([good, ["given", 1]], 1), ([good, 0, 0], 1),
            ([good, ("hits", (1, -2))], 1), ([good, ("drop", MANY_FIGURES)], 1), ([("given", True)], 0),
            ([good, ("join", 0, 0, 1)], 1), ([good, good, ("drop", -1)], 2), ([("given", -1), good], 0),
        ):
            self.assert_bad(SPOILERS, ("spoiler", lines), place)
        for lines, place in (([("hits", (1, 3))], 0), ([("hits", (1, 2)), ("given", 0)], 1), ([("hits", ())], 0)):
            self.assert_bad(WISHERS, ("wisher", lines), place)

    def test_not_whole(self):
        for hand in ("wisher", "spoiler"):
            self.assert_not_whole(("", []), (hand, []))
            self.assert_not_whole(("", [()]), (hand, []))
        self.assert_not_whole(SPOILERS, ("spoiler", [("given", 0), ("drop", 0)]))
        self.assert_not_whole(WISHERS, ("wisher", [("hits", (1, 2)), ("drop", 0)]))
        # The empty set is there, but not last.
        self.assert_not_whole(("ws", [(), (1,)]), ("spoiler", [("given", 0), ("given", 1)]))
        self.assert_not_whole(("ws", []), ("wisher", [("hits", ()), ("hits", (2,))]))

    def test_a_bad_line_goes_first(self):
        self.assert_bad(("ws", [(), (1,)]), ("spoiler", [("given", 0), None, ("given", 1)]), 1)
        self.assert_bad(("ws", [(), (1,)]), ("spoiler", [("given", 0), None, ("given", 0)]), 1)
        self.assert_bad(("ws", [(), (1,)]), ("spoiler", [None]), 0)
        self.assert_bad(("ws", []), ("wisher", [("hits", (1,)), ("drop", 1)]), 1)
        self.assert_bad(("ws", []), ("wisher", [("hits", ()), ("given", 0), ("hits", ())]), 1)

    def test_a_bad_line_that_is_not_needed_is_refused_too(self):
        for place in range(6):
            lines = [("given", 0), ("drop", 0), ("given", 1), ("drop", 2), ("join", 1, 3, 1)]
            lines.insert(place, ("given", 2))
            self.assert_bad(SPOILERS, ("spoiler", lines), place)

    def test_every_beginning_of_a_paper_that_is_not_whole(self):
        for sentence in drawn_sentences(316, 40, (3, 4), 9):
            hand, lines = whole_paper(sentence)
            sets = plain_sets(sentence, (hand, lines))
            for length in range(len(lines)):
                if sets[:length][-1:] != [()]:
                    self.assert_not_whole(sentence, (hand, lines[:length]))


class JoinedClausesTest(unittest.TestCase):
    def assert_joined(self, sentence, lines, clauses):
        self.assertEqual(joined_clauses(sentence, ("spoiler", lines)), (sentence[0], sentence[1] + clauses))

    def test_sets_come_behind_in_the_lines_order(self):
        lines = [("given", 0), ("drop", 0), ("given", 1), ("drop", 2), ("join", 1, 3, 1)]
        self.assert_joined(SPOILERS, lines, [(1,), (-1,), ()])
        lines = [("given", 1), ("given", 0), ("drop", 0), ("drop", 1), ("join", 3, 2, 1)]
        self.assert_joined(SPOILERS, lines, [(-1,), (1,), ()])

    def test_sets_that_are_among_the_clauses_already_do_not_come(self):
        sentence = ("ws", [(1, 2), (1,), (-1, -2)])
        self.assert_joined(sentence, [("given", 0), ("drop", 0), ("given", 2), ("drop", 2)], [(-1,)])
        self.assert_joined(sentence, [("given", 2), ("given", 1), ("given", 0)], [])

    def test_a_set_that_was_put_behind_does_not_come_again(self):
        lines = [("given", 0), ("drop", 0), ("drop", 0), ("given", 1), ("drop", 1), ("drop", 3), ("drop", 2)]
        self.assert_joined(SPOILERS, lines, [(1,), (-1,)])

    def test_clauses_that_stood_twice_still_do(self):
        sentence = ("ws", [(1, 2), (), (1, 2), ()])
        self.assert_joined(sentence, [("given", 2), ("drop", 0), ("given", 3)], [(1,)])

    def test_no_line_at_all(self):
        for sentence in (("", []), ("", [()]), ("ws", [(1,), (1,)])):
            self.assert_joined(sentence, [], [])

    def test_a_paper_that_is_not_whole_will_do(self):
        self.assert_joined(("wsw", [(1, 2, 3), (-3,)]), [("given", 0), ("given", 1), ("join", 0, 1, 3), ("drop", 2)],
                           [(1, 2), (1,)])

    def test_the_same_hand_wins(self):
        draw = random.Random(317)
        more = 0
        for sentence in small_sentences():
            paper, sets = spoilers_paper(draw, sentence)
            told = joined_clauses(sentence, paper)
            self.assertIs(is_sentence(told), True)
            self.assertEqual(told[0], sentence[0])
            self.assertEqual(told[1][:len(sentence[1])], sentence[1])
            behind = [literals for literals in dict.fromkeys(sets) if literals not in sentence[1]]
            self.assertEqual(told[1][len(sentence[1]):], behind)
            self.assertEqual(plain_winner(told, []), plain_winner(sentence, []))
            more += behind != []
        self.assertGreater(more, 100)

    def test_with_what_searchers_have_learnt(self):
        for sentence in drawn_sentences(318, 40, (4, 5), 9):
            searcher = Searcher(sentence)
            for many in (3, 5, 100):
                searcher.go(many)
                told = joined_clauses(sentence, searcher.learnt()[0])
                self.assertEqual(plain_winner(told, []), plain_winner(sentence, []))

    def test_what_is_told_may_be_handed_in_again(self):
        paper = ("spoiler", [("given", 0), ("drop", 0), ("given", 1), ("drop", 2), ("join", 1, 3, 1)])
        told = joined_clauses(SPOILERS, paper)
        self.assertEqual(joined_clauses(told, paper), told)
        self.assertEqual(joined_clauses(told, ("spoiler", [("given", 4)])), told)

    def test_bad_lines_are_refused(self):
        for lines, place in (([None], 0), ([("given", 0), ("drop", 1)], 1), ([("given", 2)], 0), ([("hits", ())], 0),
                             ([("given", 0), ("given", 1), ("join", 0, 1, 1)], 2), ([("given", False)], 0)):
            with self.assertRaises(BadLine) as taken:
                joined_clauses(SPOILERS, ("spoiler", lines))
            self.assertIs(type(taken.exception), BadLine)
            self.assertEqual(taken.exception.place, place)

    def test_the_wishers_papers_are_refused(self):
        for sentence, lines in (
            (("", []), []), (("ws", [(1,)]), []), (("", [()]), []), (("", []), [("hits", ())]),
            (WISHERS, [("hits", (1, 2))]), (("w", [(1,)]), [("hits", (1,)), ("drop", 0)]),
            (WISHERS, [("hits", (1, 2)), ("drop", 0), ("hits", (-1, -2)), ("drop", 2), ("join", 1, 3, 1)]),
        ):
            with self.assertRaises(NoHand) as taken:
                joined_clauses(sentence, ("wisher", lines))
            self.assertIs(type(taken.exception), NoHand)

    def test_of_the_wishers_papers_a_bad_line_goes_first(self):
        for lines, place in (([("given", 0)], 0), ([("hits", (1, 2)), None], 1), ([("hits", (1,))], 0),
                             ([("hits", (1, 2)), ("drop", 0), ("drop", 2)], 2)):
            with self.assertRaises(BadLine) as taken:
                joined_clauses(WISHERS, ("wisher", lines))
            self.assertEqual(taken.exception.place, place)


if __name__ == "__main__":
    unittest.main()
