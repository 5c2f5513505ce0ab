"""Points 20 and 21: a whole paper of the hand that wins, and the searcher that goes on by and by."""

import itertools
import unittest

from oathduel.errors import NotWhole
from oathduel.papers import is_whole, sets_of
from oathduel.plans import is_plan, plan_of
from oathduel.players import Planned, losing_play
from oathduel.search import Searcher, settled_paper
from oathduel.sentences import is_sentence
from oathduel.walks import winner_of
from tests.samples import drawn_sentences, plain_sets, plain_winner, plan_wins, small_sentences, tiny_sentences

EDGES = [
    ("", []), ("", [()]), ("", [(), ()]), ("w", []), ("s", []), ("ws", []), ("wsws", [()]), ("wsws", [(1, 2), ()]),
    ("w", [(1,), (1,)]), ("w", [(1,), (-1,)]), ("s", [(1,)]), ("s", [(1,), (-1,)]), ("ww", [(1, 2), (1, 2), (-1,)]),
    ("wwww", [(1, 2), (-1, 3), (-3, -4), (-2, 4)]), ("ssss", [(1, 2), (-1, 3)]), ("ssss", []), ("wwww", []),
    ("sw", [(1, -2), (-1, 2)]), ("ws", [(1, -2), (-1, 2)]), ("swsw", [(1, -2), (-1, 2), (3, 4), (-3, -4)]),
]

HARD = [
    # The wisher must say of each of the spoiler's variables the same: four leaves of the walk and more.
    ("sswwss", [(1, -3), (-1, 3), (2, -4), (-2, 4)]),
    # No two of three alike: the spoiler wins, though the wisher fills in all.
    ("www", [(1, 2), (-1, -2), (2, 3), (-2, -3), (1, 3), (-1, -3)]),
    ("swswsw", [(1, 2, 3), (-1, -2, 3), (-3, 4, 5), (3, -4, 6), (-5, -6), (2, -4, 5)]),
]


def sample():
    return EDGES + HARD + tiny_sentences()[::5] + drawn_sentences(1951, 80, (3, 4, 5), 9)


def looks_enough(sentence):
    return 2 ** (len(sentence[0]) + 1)


def told_by(searcher):
    """All that a searcher tells without a look."""
    settled = searcher.go(0)
    return (settled, searcher.learnt(), searcher.paper() if settled else None)


def course_of(sentence):
    """What a searcher tells after each look, from none on till there were enough of them."""
    searcher = Searcher(sentence)
    course = [told_by(searcher)]
    for look in range(looks_enough(sentence)):
        searcher.go(1)
        course.append(told_by(searcher))
    return course


class SettledPaperTest(unittest.TestCase):
    def test_the_sample_is_of_sentences(self):
        self.assertEqual([sentence for sentence in sample() if not is_sentence(sentence)], [])

    def assert_settled(self, sentence):
        hand, lines = paper = settled_paper(sentence)
        self.assertEqual(hand, plain_winner(sentence, []), sentence)
        self.assertIsInstance(paper, tuple)
        self.assertIsInstance(lines, list)
        sets = plain_sets(sentence, paper)
        self.assertNotIn(None, sets, (sentence, paper))
        self.assertEqual(sets[-1], (), (sentence, paper))
        self.assertIs(is_whole(sentence, paper), True)
        self.assertEqual(sets_of(sentence, paper), sets)
        return paper

    def test_papers_of_many_small_sentences(self):
        for sentence in EDGES + HARD + small_sentences():
            self.assert_settled(sentence)

    def test_both_hands_win_often_enough(self):
        hands = [settled_paper(sentence)[0] for sentence in small_sentences()]
        self.assertGreater(hands.count("wisher"), 100)
        self.assertGreater(hands.count("spoiler"), 100)

    def test_papers_of_somewhat_greater_sentences(self):
        for sentence in drawn_sentences(77, 60, (6, 7, 8), 14):
            self.assert_settled(sentence)

    def test_the_plan_read_off_it_wins(self):
        for sentence in EDGES + HARD + small_sentences() + drawn_sentences(78, 40, (6, 7), 12):
            paper = settled_paper(sentence)
            plan = plan_of(sentence, paper)
            self.assertIs(is_plan(sentence, paper[0], plan), True)
            self.assertIs(plan_wins(sentence, paper[0], plan), True, (sentence, paper))

    def test_twelve_variables(self):
        hands = []
        for sentence in drawn_sentences(79, 25, (12,), 30):
            paper = settled_paper(sentence)
            hands.append(paper[0])
            self.assertEqual(paper[0], winner_of(sentence))
            self.assertIs(is_whole(sentence, paper), True)
            self.assertIsNone(losing_play(sentence, paper[0], Planned(plan_of(sentence, paper))))
        self.assertEqual(sorted(set(hands)), ["spoiler", "wisher"])

    def test_twelve_variables_of_which_each_tells(self):
        same = [clause for k in range(1, 7) for clause in ((k, -k - 6), (-k, k + 6))]
        for turns, hand in (("s" * 6 + "w" * 6, "wisher"), ("w" * 6 + "s" * 6, "spoiler"), ("sw" * 6, "spoiler")):
            paper = settled_paper((turns, same))
            self.assertEqual(paper[0], hand)
            self.assertIs(is_whole((turns, same), paper), True)
            self.assertIsNone(losing_play((turns, same), hand, Planned(plan_of((turns, same), paper))))

    def test_the_edges_papers(self):
        self.assertEqual(settled_paper(("", [])), ("wisher", [("hits", ())]))
        self.assertEqual(settled_paper(("", [()])), ("spoiler", [("given", 0)]))
        self.assertEqual(settled_paper(("sws", []))[0], "wisher")
        self.assertEqual(settled_paper(("sws", [(1, 2, 3), ()]))[0], "spoiler")

    def test_the_same_question_has_the_same_answer(self):
        for sentence in sample():
            self.assertEqual(settled_paper(sentence), settled_paper(sentence))


class SearcherTest(unittest.TestCase):
    def test_ahead_of_the_first_look_there_is_no_line_and_nothing_is_settled(self):
        for sentence in sample():
            searcher = Searcher(sentence)
            for count in range(3):
                self.assertEqual(searcher.learnt(), (("spoiler", []), ("wisher", [])))
                self.assertIs(searcher.go(0), False)
                with self.assertRaises(NotWhole):
                    searcher.paper()

    def test_so_many_looks_are_enough(self):
        for sentence in sample():
            self.assertIs(Searcher(sentence).go(looks_enough(sentence)), True)

    def test_one_look_settles_where_there_is_but_one_begun_filling(self):
        for sentence in (("", []), ("", [()])):
            self.assertIs(Searcher(sentence).go(1), True)

    def test_no_line_that_is_learnt_is_bad(self):
        for sentence in sample():
            for settled, learnt, paper in course_of(sentence):
                self.assertIsInstance(learnt, tuple)
                self.assertEqual([told[0] for told in learnt], ["spoiler", "wisher"])
                for told in learnt:
                    self.assertIsInstance(told[1], list)
                    self.assertNotIn(None, plain_sets(sentence, told), (sentence, told))
                    self.assertEqual(sets_of(sentence, told), plain_sets(sentence, told))

    def test_lines_stay_and_more_come_behind_them(self):
        for sentence in sample():
            course = course_of(sentence)
            for ahead, behind in zip(course, course[1:]):
                for first, second in zip(ahead[1], behind[1]):
                    self.assertEqual(second[1][:len(first[1])], first[1])

    def test_lines_are_learnt_by_and_by(self):
        # Where it takes more than a few looks, there are lines ahead of the end, and not all of them.
        for sentence in HARD:
            course = course_of(sentence)
            counts = [len(learnt[0][1]) + len(learnt[1][1]) for settled, learnt, paper in course if not settled]
            self.assertGreater(len(counts), 3, sentence)
            self.assertGreater(max(counts), 0, sentence)

    def test_once_settled_a_line_of_the_winners_comes_to_the_empty_set(self):
        for sentence in sample():
            winner = plain_winner(sentence, [])
            for settled, learnt, paper in course_of(sentence):
                papers = dict(learnt)
                self.assertEqual(() in plain_sets(sentence, (winner, papers[winner])), settled)
                loser = "spoiler" if winner == "wisher" else "wisher"
                self.assertNotIn((), plain_sets(sentence, (loser, papers[loser])))

    def test_the_paper_is_whole_and_stays_the_same(self):
        for sentence in sample():
            course = course_of(sentence)
            settled = [told for told in course if told[0]]
            # Not settled at first, then settled from some look on.
            self.assertEqual(course[len(course) - len(settled):], settled)
            self.assertNotEqual(settled, [])
            for told in settled:
                self.assertEqual(told, settled[0])
                self.assertEqual(told[2][0], plain_winner(sentence, []))
                self.assertEqual(plain_sets(sentence, told[2])[-1:], [()])
                self.assertIs(is_whole(sentence, told[2]), True)

    def test_no_paper_before_it_has_settled(self):
        for sentence in sample():
            searcher = Searcher(sentence)
            for look in range(looks_enough(sentence)):
                with self.assertRaises(NotWhole) as taken:
                    searcher.paper()
                self.assertIs(type(taken.exception), NotWhole)
                if searcher.go(1):
                    break
            self.assertIs(is_whole(sentence, searcher.paper()), True)

    def test_a_settled_searcher_may_be_asked_to_go_on(self):
        for sentence in sample():
            searcher = Searcher(sentence)
            searcher.go(10000)
            told = told_by(searcher)
            for many in (0, 1, 7, 10000):
                self.assertIs(searcher.go(many), True)
                self.assertEqual(told_by(searcher), told)


class PortionsTest(unittest.TestCase):
    def assert_course(self, sentence, course, portions):
        """However the looks are dealt out, so many of them tell the same."""
        searcher = Searcher(sentence)
        looks = 0
        for many in portions:
            looks = min(looks + many, len(course) - 1)
            self.assertIs(searcher.go(many), course[looks][0], (sentence, looks))
            self.assertEqual(told_by(searcher), course[looks], (sentence, looks))

    def test_in_every_even_portion(self):
        for sentence in EDGES + HARD + drawn_sentences(1952, 30, (3, 4), 9):
            course = course_of(sentence)
            for many in range(1, len(course) + 1):
                self.assert_course(sentence, course, [many] * ((len(course) - 2) // many + 1))

    def test_in_uneven_portions_with_noughts_between(self):
        for sentence in sample():
            course = course_of(sentence)
            self.assert_course(sentence, course, (0, 1, 0, 0, 2, 3, 0, 1, 5, 0, 8, 13, 0, 21, 34, 10000))
            self.assert_course(sentence, course, (2, 0, 1, 1, 4, 0, 0, 10000, 0))

    def test_enough_looks_settle_it_however_they_are_dealt_out(self):
        for sentence in HARD + drawn_sentences(1953, 20, (5, 6), 9):
            for many in (1, 2, 3, 7, 64):
                searcher = Searcher(sentence)
                left = looks_enough(sentence)
                while left > 0:
                    settled = searcher.go(min(many, left))
                    left -= many
                self.assertIs(settled, True)

    def test_two_searchers_by_turns_know_nothing_of_each_other(self):
        sentences = HARD + drawn_sentences(1954, 8, (3, 4), 9)
        courses = [course_of(sentence) for sentence in sentences]
        for one, other in itertools.product(range(len(sentences)), repeat=2):
            searchers = (Searcher(sentences[one]), Searcher(sentences[other]))
            for look in range(max(len(courses[one]), len(courses[other]))):
                for searcher, course in zip(searchers, (courses[one], courses[other])):
                    self.assertEqual(told_by(searcher), course[min(look, len(course) - 1)])
                    searcher.go(1)

    def test_two_searchers_of_one_sentence(self):
        for sentence in HARD:
            course = course_of(sentence)
            ahead, behind = Searcher(sentence), Searcher(sentence)
            ahead.go(10000)
            for told in course:
                self.assertEqual(told_by(behind), told)
                behind.go(1)
            self.assertEqual(told_by(ahead), course[-1])

    def test_forty_variables_piece_by_piece(self):
        turns = "wswwsw" * 6 + "wsww"
        sentences = [(turns, sentence[1]) for sentence in drawn_sentences(40, 6, (40,), 150)]
        unlike = [clause for k in range(1, 40) for clause in ((k, k + 1), (-k, -k - 1))]
        for sentence in sentences + [("w" * 40, unlike), ("ws" * 20, unlike)]:
            searcher = Searcher(sentence)
            lengths = [0, 0]
            for many in (0, 1, 10, 100, 1000):
                settled = searcher.go(many)
                learnt = searcher.learnt()
                for place, told in enumerate(learnt):
                    self.assertNotIn(None, plain_sets(sentence, told))
                    self.assertGreaterEqual(len(told[1]), lengths[place])
                    lengths[place] = len(told[1])
                if settled:
                    self.assertIs(is_whole(sentence, searcher.paper()), True)


if __name__ == "__main__":
    unittest.main()
