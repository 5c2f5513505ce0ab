"""Points 2, 3 and 7: what is a set, what is a sentence, asked of anything."""

import unittest

from oathduel.sentences import is_sentence, is_set
from tests.samples import MANY_FIGURES, TOO_MANY_TO_WRITE, all_sets, small_sentences

NO_SETS = (
    None, True, False, 0, 1, -1, "", "1", "(1,)", [], [1], [1, 2], ["1"],
    (0,), (1, 0), (0, 1), (True,), (False,), (True, 2), (1, True), (1, False), (-1, True),
    (None,), (1, None), ("1",), (1, "2"), ("",), ((),), ((1,),), ([],), ([1],), (1, (2,)),
    (2, 1), (1, 3, 2), (-2, 1), (2, -1), (1, -3, 2), (3, 2, 1),
    (1, 1), (-1, -1), (1, 2, 2), (1, -1), (-1, 1), (2, -2), (1, 2, -2), (-1, 2, 1),
)

NO_TURNS = (
    None, True, 0, 1, (), [], ("w",), ["w", "s"], "W", "S", "wS", "Ws", "x", "wxs", " ", "w ", " w", "w s",
    "w\n", "\n", "ws,", "1", "-", "\"", "~",
)

NO_CLAUSES = (
    None, True, False, 0, 1, "", "12", (), ((1,),), ((1,), (2,)), [1], [-1, 2], [0], [True], [None], [""], ["1"],
    [[]], [[1]], [[1], [2]], [(1,), [2]], [(1,), 2], [(1,), None], [((1,),)],
    [(0,)], [(True,)], [(1, False)], [("1",)], [(None,)],
    [(2, 1)], [(1, 1)], [(1, -1)], [(1,), (2, -2)], [(3,)], [(-3,)], [(1,), (2, 3)], [(MANY_FIGURES,)],
)


class IsSetTest(unittest.TestCase):
    def assert_told(self, answer, thing, most):
        self.assertIs(is_set(thing, most), answer, (thing, most))

    def test_sets(self):
        for literals in ((1, -3, 4), (1,), (-1,), (4,), (-4,), (1, 2, 3, 4), (-1, -2, -3, -4), (2, -3)):
            self.assert_told(True, literals, 4)

    def test_every_small_set(self):
        for literals in all_sets(4):
            self.assert_told(True, literals, 4)

    def test_the_empty_set_goes_with_any_count_of_variables(self):
        for most in (0, 1, 40, MANY_FIGURES, -1):
            self.assert_told(True, (), most)

    def test_variables_end_with_the_greatest(self):
        self.assert_told(True, (1, -3), 3)
        self.assert_told(False, (1, -3), 2)
        self.assert_told(False, (1, 3), 2)
        self.assert_told(False, (-4,), 3)
        self.assert_told(False, (1,), 0)
        self.assert_told(False, (-1,), 0)
        self.assert_told(False, (-1,), -1)
        self.assert_told(False, (1,), -5)

    def test_numbers_of_many_figures(self):
        self.assert_told(True, (1, -MANY_FIGURES), MANY_FIGURES)
        self.assert_told(False, (MANY_FIGURES + 1,), MANY_FIGURES)
        self.assert_told(False, (-MANY_FIGURES - 1,), MANY_FIGURES)
        self.assert_told(True, (TOO_MANY_TO_WRITE,), TOO_MANY_TO_WRITE)

    def test_variables_ascend_whatever_their_signs(self):
        self.assert_told(True, (-5, 6, -7), 9)
        self.assert_told(False, (-7, -6, -5), 9)
        self.assert_told(False, (-1, -3, 2), 9)

    def test_things_that_are_no_sets(self):
        for thing in NO_SETS:
            self.assert_told(False, thing, 9)

    def test_long_sets(self):
        long = tuple(range(1, 20001))
        self.assert_told(True, long, 20000)
        self.assert_told(False, long, 19999)
        self.assert_told(False, long + (20000,), 20000)


class IsSentenceTest(unittest.TestCase):
    def assert_told(self, answer, thing):
        self.assertIs(is_sentence(thing), answer, thing)

    def test_sentences(self):
        for sentence in (("ws", [(1, -2), (2,)]), ("wws", [(1, -3), (-2,)]), ("s", [(-1,)])):
            self.assert_told(True, sentence)

    def test_every_small_sentence(self):
        for sentence in small_sentences():
            self.assert_told(True, sentence)

    def test_edges(self):
        for sentence in (("", []), ("", [()]), ("w", []), ("s", [()]), ("ws", [(), ()]), ("ws", [(1,), (1,)])):
            self.assert_told(True, sentence)

    def test_variables_end_with_the_turns(self):
        self.assert_told(True, ("wsw", [(3,), (-3,), (1, -3)]))
        self.assert_told(False, ("ws", [(3,)]))
        self.assert_told(False, ("ws", [(1,), (1, -3)]))
        self.assert_told(False, ("", [(1,)]))
        self.assert_told(False, ("", [(-1,)]))

    def test_as_many_variables_and_clauses_as_one_likes(self):
        turns = "ws" * 10000
        self.assert_told(True, (turns, [(k + 1, -20000) for k in range(5000)]))
        self.assert_told(False, (turns, [(k + 1, -20000) for k in range(5000)] + [(20001,)]))
        self.assert_told(False, (turns + "x", []))

    def test_turns_of_other_signs_or_kinds(self):
        for turns in NO_TURNS:
            self.assert_told(False, (turns, []))

    def test_clauses_of_other_kinds(self):
        for clauses in NO_CLAUSES:
            self.assert_told(False, ("ws", clauses))

    def test_a_part_more_or_fewer(self):
        for thing in ((), ("ws",), ([],), ("ws", [], []), ("ws", [(1,)], None), ("ws", [], "ws")):
            self.assert_told(False, thing)

    def test_things_that_are_no_tuples_of_two(self):
        for thing in (None, True, False, 0, 2, "", "ws", [], ["ws", []], ["ws", [(1,)]], ([], "ws"), ((), ())):
            self.assert_told(False, thing)


if __name__ == "__main__":
    unittest.main()
