"""Points 12, 13 and 14: what the lines of papers come to."""

import unittest

from oathduel.papers import sets_of
from oathduel.sentences import is_set
from tests.samples import PaperMaker, plain_drop, small_sentences, whole_paper


class SpoilersPaperTest(unittest.TestCase):
    def assert_sets(self, sentence, lines, sets):
        self.assertEqual(sets_of(sentence, ("spoiler", lines)), sets)

    def test_given_join_and_drop_one_behind_the_other(self):
        sentence = ("wsw", [(1, 2, 3), (1, -3), (-1, 2)])
        lines = [
            ("given", 0), ("given", 1), ("join", 0, 1, 3), ("drop", 2), ("given", 2), ("drop", 4), ("join", 3, 5, 1),
        ]
        sets = [(1, 2, 3), (1, -3), (1, 2), (1,), (-1, 2), (-1,), ()]
        self.assert_sets(sentence, lines, sets)

    def test_given_is_counted_from_nought_and_may_come_again(self):
        sentence = ("ws", [(1,), (-2,), (1, 2)])
        self.assert_sets(sentence, [("given", 2), ("given", 0), ("given", 1), ("given", 2)],
                         [(1, 2), (1,), (-2,), (1, 2)])

    def test_a_join_has_each_literal_once_with_variables_ascending(self):
        sentence = ("swwsws", [(-1, 3, 5, 6), (-1, 2, -4, -5, 6), (-5,), (5,)])
        lines = [("given", 0), ("given", 1), ("join", 0, 1, 5), ("given", 2), ("join", 0, 3, 5), ("given", 3),
                 ("join", 5, 3, 5), ("join", 5, 1, 5)]
        sets = [(-1, 3, 5, 6), (-1, 2, -4, -5, 6), (-1, 2, 3, -4, 6), (-5,), (-1, 3, 6), (5,), (), (-1, 2, -4, 6)]
        self.assert_sets(sentence, lines, sets)

    def test_the_first_line_named_has_the_variable_and_may_stand_behind_the_second(self):
        sentence = ("ww", [(-1, 2), (1, 2)])
        self.assert_sets(sentence, [("given", 0), ("given", 1), ("join", 1, 0, 1)], [(-1, 2), (1, 2), (2,)])

    def test_a_drop_takes_out_what_is_behind_all_of_the_wishers(self):
        sentence = ("swsss", [(1, 2, -3, 4, -5), (-2, 5), (1, -2)])
        lines = [("given", 0), ("drop", 0), ("given", 1), ("drop", 2), ("given", 2), ("drop", 4), ("drop", 1)]
        sets = [(1, 2, -3, 4, -5), (1, 2), (-2, 5), (-2,), (1, -2), (1, -2), (1, 2)]
        self.assert_sets(sentence, lines, sets)

    def test_what_stands_between_the_wishers_variables_stays(self):
        sentence = ("wsws", [(1, 2, 3, 4), (1, -2, -4), (-2, 3)])
        lines = [("given", 0), ("drop", 0), ("given", 1), ("drop", 2), ("given", 2), ("drop", 4)]
        self.assert_sets(sentence, lines, [(1, 2, 3, 4), (1, 2, 3), (1, -2, -4), (1,), (-2, 3), (-2, 3)])

    def test_a_drop_may_take_nothing_out(self):
        sentence = ("sw", [(1, 2), (2,), ()])
        lines = [("given", 0), ("drop", 0), ("given", 1), ("drop", 2), ("given", 2), ("drop", 4)]
        self.assert_sets(sentence, lines, [(1, 2), (1, 2), (2,), (2,), (), ()])

    def test_without_a_variable_of_the_wisher_all_goes_out(self):
        sentence = ("swss", [(1, -3, 4), (-1,), (4,)])
        lines = [("given", 0), ("drop", 0), ("given", 1), ("drop", 2), ("given", 2), ("drop", 4)]
        self.assert_sets(sentence, lines, [(1, -3, 4), (), (-1,), (), (4,), ()])

    def test_an_empty_paper(self):
        for sentence in (("", []), ("", [()]), ("ws", [(1, 2)])):
            self.assert_sets(sentence, [], [])

    def test_an_empty_clause(self):
        self.assert_sets(("ws", [(1,), ()]), [("given", 1), ("given", 0)], [(), (1,)])

    def test_no_variables(self):
        self.assert_sets(("", [()]), [("given", 0), ("drop", 0), ("drop", 1)], [(), (), ()])


class WishersPaperTest(unittest.TestCase):
    def assert_sets(self, sentence, lines, sets):
        self.assertEqual(sets_of(sentence, ("wisher", lines)), sets)

    def test_hits_join_and_drop_one_behind_the_other(self):
        sentence = ("sws", [(1, -2, 3), (-1, 2)])
        lines = [
            ("hits", (1, 2)), ("drop", 0), ("hits", (-1, -2, 3)), ("hits", (-1, -2, -3)), ("join", 2, 3, 3),
            ("drop", 4), ("join", 1, 5, 1),
        ]
        sets = [(1, 2), (1,), (-1, -2, 3), (-1, -2, -3), (-1, -2), (-1,), ()]
        self.assert_sets(sentence, lines, sets)

    def test_hits_come_to_themselves_however_many_they_are(self):
        sentence = ("wsw", [(1, 2), (-2, 3), (1,)])
        for literals in ((1, 3), (1, 2, 3), (1, -2), (1, -2, -3)):
            self.assert_sets(sentence, [("hits", literals)], [literals])

    def test_one_literal_may_hit_all_clauses(self):
        self.assert_sets(("ws", [(1, -2), (-2,), (-1, -2)]), [("hits", (-2,))], [(-2,)])

    def test_a_join_has_each_literal_once_with_variables_ascending(self):
        sentence = ("wsswsw", [])
        lines = [("hits", (-1, 3, 5, 6)), ("hits", (-1, 2, -4, -5, 6)), ("join", 0, 1, 5), ("hits", (-2,)),
                 ("join", 2, 3, 2)]
        sets = [(-1, 3, 5, 6), (-1, 2, -4, -5, 6), (-1, 2, 3, -4, 6), (-2,), (-1, 3, -4, 6)]
        self.assert_sets(sentence, lines, sets)

    def test_a_drop_takes_out_what_is_behind_all_of_the_spoilers(self):
        sentence = ("wswww", [])
        lines = [("hits", (1, 2, -3, 4, -5)), ("drop", 0), ("hits", (-2, 5)), ("drop", 2), ("hits", (1, -2)),
                 ("drop", 4)]
        self.assert_sets(sentence, lines, [(1, 2, -3, 4, -5), (1, 2), (-2, 5), (-2,), (1, -2), (1, -2)])

    def test_what_stands_between_the_spoilers_variables_stays(self):
        sentence = ("swsw", [])
        lines = [("hits", (1, 2, 3, 4)), ("drop", 0), ("hits", (1, -2, -4)), ("drop", 2), ("hits", (-2, 3)),
                 ("drop", 4)]
        self.assert_sets(sentence, lines, [(1, 2, 3, 4), (1, 2, 3), (1, -2, -4), (1,), (-2, 3), (-2, 3)])

    def test_without_a_variable_of_the_spoiler_all_goes_out(self):
        sentence = ("wsww", [(1, -3)])
        lines = [("hits", (1, -3, 4)), ("drop", 0), ("hits", (-3,)), ("drop", 2)]
        self.assert_sets(sentence, lines, [(1, -3, 4), (), (-3,), ()])

    def test_an_empty_paper(self):
        for sentence in (("", []), ("", [()]), ("ws", [(1, 2)])):
            self.assert_sets(sentence, [], [])

    def test_no_clauses(self):
        self.assert_sets(("ws", []), [("hits", ()), ("hits", (1, -2)), ("drop", 1), ("hits", (-1,)), ("drop", 3)],
                         [(), (1, -2), (1, -2), (-1,), ()])

    def test_no_variables(self):
        self.assert_sets(("", []), [("hits", ()), ("drop", 0)], [(), ()])


class BothHandsTest(unittest.TestCase):
    def test_the_hand_tells_whose_literals_go_out(self):
        self.assertEqual(sets_of(("ws", [(1, 2)]), ("spoiler", [("given", 0), ("drop", 0)])), [(1, 2), (1,)])
        self.assertEqual(sets_of(("sw", [(1, 2)]), ("spoiler", [("given", 0), ("drop", 0)])), [(1, 2), (1, 2)])
        self.assertEqual(sets_of(("ws", []), ("wisher", [("hits", (1, 2)), ("drop", 0)])), [(1, 2), (1, 2)])
        self.assertEqual(sets_of(("sw", []), ("wisher", [("hits", (1, 2)), ("drop", 0)])), [(1, 2), (1,)])

    def test_papers_made_by_a_walk(self):
        for sentence in small_sentences():
            maker = PaperMaker(sentence)
            self.assertEqual(sets_of(sentence, (maker.hand, maker.lines)), maker.sets, sentence)

    def test_what_each_line_comes_to_is_a_set_of_the_sentences_variables(self):
        for sentence in small_sentences():
            for literals in sets_of(sentence, whole_paper(sentence)):
                self.assertIs(is_set(literals, len(sentence[0])), True, literals)

    def test_drops_of_every_clause_and_of_every_hits(self):
        for sentence in small_sentences():
            for place, clause in enumerate(sentence[1]):
                told = sets_of(sentence, ("spoiler", [("given", place), ("drop", 0)]))
                self.assertEqual(told, [clause, plain_drop(sentence, "spoiler", clause)])
                told = sets_of((sentence[0], []), ("wisher", [("hits", clause), ("drop", 0)]))
                self.assertEqual(told, [clause, plain_drop(sentence, "wisher", clause)])

    def assert_many(self, sentence, paper, sets):
        # To tell two long lists apart in words would take unittest minutes.
        self.assertTrue(sets_of(sentence, paper) == sets)

    def test_as_large_as_papers_come(self):
        turns = "ws" * 20
        clauses = [(k % 39 + 1, -40) for k in range(199)] + [tuple(range(1, 41))]
        lines = [("given", 199)] + [("drop", k) for k in range(1999)]
        sets = [tuple(range(1, 41))] + [tuple(range(1, 40))] * 1999
        self.assert_many((turns, clauses), ("spoiler", lines), sets)
        lines = [("hits", (-40,))] + [("drop", k) for k in range(1999)]
        self.assert_many(("w" * 39 + "s", clauses[:199]), ("wisher", lines), [(-40,)] * 2000)

    def test_somewhat_beyond_the_bounds(self):
        turns = "w" * 60
        clauses = [(60,), (-60,)] * 120
        lines = [("given", k % 240) for k in range(2400)] + [("join", 2398, 2399, 60)]
        self.assert_many((turns, clauses), ("spoiler", lines), [(60,), (-60,)] * 1200 + [()])


if __name__ == "__main__":
    unittest.main()
