"""Point 28: the sentence that is made of a form."""

import copy
import random
import unittest

from oathduel.errors import NoForm
from oathduel.players import Planned
from oathduel.sentences import comes_true, is_sentence
from oathduel.shapes import clauses_of, form_losing_play, form_winner
from oathduel.walks import winner_of
from tests.samples import (
    MANY_FIGURES, TOO_MANY_TO_WRITE, all_fillings, all_turns, dense_form, drawn_forms, plain_form_true,
    plain_form_winner, sentence_form, tiny_sentences,
)


def clause(*literals):
    return tuple(sorted(set(literals), key=abs))


def plain_clauses(turns, nodes):
    """The clauses node by node, in the words of the document."""
    variables = [len(turns) + 1 + place for place in range(len(nodes))]
    told = []
    for n, (word, *named) in zip(variables, nodes):
        v = named[0] if word == "in" else None
        i, j = ([variables[place] for place in named] + [None, None])[:2] if word != "in" else (None, None)
        told += {
            "yes": lambda: [clause(n)],
            "no": lambda: [clause(-n)],
            "in": lambda: [clause(v, -n), clause(-v, n)],
            "not": lambda: [clause(i, n), clause(-i, -n)],
            "and": lambda: [clause(i, -n), clause(j, -n), clause(-i, -j, n)],
            "or": lambda: [clause(-i, n), clause(-j, n), clause(i, j, -n)],
        }[word]()
    return told + [clause(variables[-1])]


class ClausesTest(unittest.TestCase):
    def test_each_kind_of_node(self):
        for turns, nodes, clauses in (
            ("", [("yes",)], [(1,), (1,)]),
            ("", [("no",)], [(-1,), (1,)]),
            ("ws", [("yes",)], [(3,), (3,)]),
            ("ws", [("in", 1)], [(1, -3), (-1, 3), (3,)]),
            ("ws", [("in", 2)], [(2, -3), (-2, 3), (3,)]),
            ("", [("yes",), ("not", 0)], [(1,), (1, 2), (-1, -2), (2,)]),
            ("", [("yes",), ("no",), ("and", 0, 1)], [(1,), (-2,), (1, -3), (2, -3), (-1, -2, 3), (3,)]),
            ("", [("yes",), ("no",), ("or", 0, 1)], [(1,), (-2,), (-1, 3), (-2, 3), (1, 2, -3), (3,)]),
        ):
            self.assertEqual(clauses_of(turns, nodes), (turns + "w" * len(nodes), clauses))

    def test_the_later_node_named_first(self):
        for word, clauses in (
            ("and", [(2, -3), (1, -3), (-1, -2, 3), (3,)]), ("or", [(-2, 3), (-1, 3), (1, 2, -3), (3,)]),
        ):
            told = clauses_of("", [("yes",), ("no",), (word, 1, 0)])
            self.assertEqual(told, ("www", [(1,), (-2,)] + clauses))

    def test_one_node_named_twice(self):
        for word, clauses in (("and", [(1, -2), (1, -2), (-1, 2), (2,)]), ("or", [(-1, 2), (-1, 2), (1, -2), (2,)])):
            self.assertEqual(clauses_of("", [("yes",), (word, 0, 0)]), ("ww", [(1,)] + clauses))
        self.assertEqual(
            clauses_of("s", [("in", 1), ("not", 0), ("or", 1, 1)]),
            ("swww", [(1, -2), (-1, 2), (2, 3), (-2, -3), (-3, 4), (-3, 4), (3, -4), (4,)]),
        )

    def test_two_nodes_that_are_alike(self):
        self.assertEqual(
            clauses_of("s", [("in", 1), ("in", 1), ("and", 0, 1)]),
            ("swww", [(1, -2), (-1, 2), (1, -3), (-1, 3), (2, -4), (3, -4), (-2, -3, 4), (4,)]),
        )

    def test_against_the_words(self):
        words = dict.fromkeys(("yes", "no", "in", "not", "and", "or"), 0)
        for turns, nodes in drawn_forms(63, 300, (0, 1, 2, 5), 14):
            ahead = copy.deepcopy(nodes)
            told = clauses_of(turns, nodes)
            self.assertEqual(told, (turns + "w" * len(nodes), plain_clauses(turns, nodes)))
            self.assertIs(is_sentence(told), True)
            self.assertEqual(nodes, ahead)
            for node in nodes:
                words[node[0]] += 1
        self.assertGreater(min(words.values()), 100)

    def test_forms_at_the_bounds(self):
        nodes = dense_form(random.Random(64), 12, 2000)
        told = clauses_of("wsswwwsswwss", nodes)
        self.assertTrue(told == ("wsswwwsswwss" + "w" * 2000, plain_clauses("wsswwwsswwss", nodes)))
        self.assertIs(is_sentence(told), True)

    def test_it_comes_true_just_with_the_nodes_values_where_the_form_does(self):
        for turns, nodes in drawn_forms(65, 60, (0, 1, 2), 5):
            sentence = clauses_of(turns, nodes)
            for filling in all_fillings(len(turns)):
                values = [plain_form_true(nodes[:place + 1], filling) for place in range(len(nodes))]
                true = [rest for rest in all_fillings(len(nodes)) if comes_true(sentence, filling + rest)]
                self.assertEqual(true, [values] if values[-1] else [])

    def test_it_is_won_by_the_hand_that_wins_the_form(self):
        winners = []
        for turns, nodes in drawn_forms(66, 250, (0, 1, 2, 4), 7):
            winners.append(plain_form_winner(turns, nodes, []))
            self.assertEqual(winner_of(clauses_of(turns, nodes)), winners[-1])
            self.assertEqual(form_winner(turns, nodes), winners[-1])
        self.assertGreater(min(winners.count("wisher"), winners.count("spoiler")), 60)

    def test_changing_what_is_told_changes_nothing_told_later(self):
        nodes = [("in", 1), ("in", 2), ("or", 0, 1)]
        told = clauses_of("ws", nodes)
        ahead = copy.deepcopy(told)
        told[1].append(())
        told[1].reverse()
        self.assertEqual(clauses_of("ws", nodes), ahead)
        told = clauses_of("ws", nodes)
        nodes.append(("not", 2))
        self.assertEqual(told, ahead)


class NoFormTest(unittest.TestCase):
    def assert_refused(self, turns, thing):
        ahead = copy.deepcopy(thing)
        player = Planned([(v + 1, [], True) for v in range(len(turns))])
        for question in (
            lambda: clauses_of(turns, thing), lambda: form_winner(turns, thing),
            lambda: form_losing_play(turns, thing, "wisher", player),
            lambda: form_losing_play(turns, thing, "spoiler", player),
            # The refusal goes ahead of what a player without the variables would refuse.
            lambda: form_losing_play(turns, thing, "wisher", Planned([])),
        ):
            with self.assertRaises(NoForm) as taken:
                question()
            self.assertIs(type(taken.exception), NoForm)
        self.assertEqual(thing, ahead)

    def test_things_that_are_no_forms(self):
        for thing in (None, True, False, 0, 1, MANY_FIGURES, "", "yes", (), [], ("yes",), (("yes",),), ["yes"], [[]],
                      [("yes",), None], [("yes",), ["no"]], [("yes", 0)], [()], [("in",)], [("not", 0)],
                      [("in", 1), ("and", 0)], [("in", 1), ("or", 0, 1)], [("in", True)], [("in", 1), ("not", False)],
                      [("in", "1")], [("in", 1), ("not", -1)], [("xor", 0, 0)], "in 1\n", [("in", TOO_MANY_TO_WRITE)]):
            for turns in ("w", "ws", "sw"):
                self.assert_refused(turns, thing)

    def test_variables_beyond_the_turns(self):
        for turns in all_turns(0) + all_turns(1) + all_turns(3):
            for variable in (0, -1, len(turns) + 1, len(turns) + 2, 40, MANY_FIGURES, -MANY_FIGURES):
                self.assert_refused(turns, [("in", variable)])
                self.assert_refused(turns, [("yes",), ("in", variable), ("yes",)])
            # The node's own variable is none of the turns'.
            self.assert_refused(turns, [("yes",), ("in", len(turns) + 1)])
        self.assertEqual(clauses_of("w", [("in", 1)]), ("ww", [(1, -2), (-1, 2), (2,)]))


class SentencesAsFormsTest(unittest.TestCase):
    def test_the_same_hand_wins(self):
        for sentence in tiny_sentences():
            nodes = sentence_form(sentence)
            self.assertEqual(form_winner(sentence[0], nodes), winner_of(sentence))
            if len(nodes) < 9:
                self.assertEqual(winner_of(clauses_of(sentence[0], nodes)), winner_of(sentence))


if __name__ == "__main__":
    unittest.main()
