"""Points 27 and 28: what a form is, and what it comes to by a filling."""

import copy
import random
import unittest

from oathduel.errors import NoForm
from oathduel.shapes import form_true, is_form
from tests.samples import MANY_FIGURES, TOO_MANY_TO_WRITE, all_fillings, dense_form, drawn_form, plain_form_true

GOOD = [("yes",), ("no",), ("in", 1), ("in", 2), ("not", 0), ("and", 2, 3), ("or", 5, 5)]

NO_NUMBERS = (None, True, False, "", "0", "1", (), (0,), (1,), [], [0], [1], "yes", ("in", 1))
FAR_OUT = (-1, -2, MANY_FIGURES, -MANY_FIGURES, TOO_MANY_TO_WRITE, -TOO_MANY_TO_WRITE)


class IsFormTest(unittest.TestCase):
    def assert_form(self, thing, most):
        ahead = copy.deepcopy(thing)
        self.assertIs(is_form(thing, most), True, thing)
        self.assertEqual(thing, ahead)

    def assert_no_form(self, thing, most):
        ahead = copy.deepcopy(thing)
        self.assertIs(is_form(thing, most), False, thing)
        self.assertEqual(thing, ahead)

    def test_forms(self):
        for nodes in (
            [("yes",)], [("no",)], [("in", 1)], [("in", 2)], GOOD, [("yes",)] * 5, [("no",), ("not", 0), ("not", 1)],
            [("in", 1), ("and", 0, 0)], [("in", 1), ("or", 0, 0)], [("in", 2), ("in", 1), ("or", 1, 0), ("and", 2, 1)],
        ):
            self.assert_form(nodes, 2)
            self.assert_form(nodes, MANY_FIGURES)
            self.assert_form(nodes, TOO_MANY_TO_WRITE)

    def test_forms_over_no_variables(self):
        self.assert_form([("yes",), ("not", 0), ("and", 0, 1)], 0)
        self.assert_no_form([("yes",), ("in", 1)], 0)
        self.assert_no_form([("in", 0)], 0)

    def test_variables_from_1_to_most(self):
        for most in (1, 2, 40, MANY_FIGURES):
            for variable in (1, most):
                self.assert_form([("in", variable)], most)
            for variable in (0, -1, -most, most + 1, most + 2, TOO_MANY_TO_WRITE, -TOO_MANY_TO_WRITE):
                self.assert_no_form([("in", variable)], most)
                self.assert_no_form([("in", 1), ("in", variable), ("and", 0, 1)], most)

    def test_nodes_that_are_not_ahead(self):
        for place in range(4):
            ahead = [("in", 1)] * place
            for number in (place, place + 1, place + 5) + FAR_OUT:
                self.assert_no_form(ahead + [("not", number)], 1)
                for word in ("and", "or"):
                    self.assert_no_form(ahead + [(word, number, number)], 1)
                    self.assert_no_form(ahead + [(word, 0, number)], 1)
                    self.assert_no_form(ahead + [(word, number, 0)], 1)
                # The nodes behind it do not count as ahead.
                self.assert_no_form(ahead + [("not", number)] + [("in", 1)] * 8, 1)
            if place:
                self.assert_form(ahead + [("not", place - 1), ("and", place, place - 1), ("or", 0, place + 1)], 1)

    def test_things_that_are_no_numbers(self):
        for thing in NO_NUMBERS:
            for node in (("in", thing), ("not", thing), ("and", thing, 0), ("and", 0, thing), ("or", thing, 1),
                         ("or", 1, thing), ("and", thing, thing)):
                self.assert_no_form([("yes",), ("in", 1), node], 2)
                self.assert_no_form([("yes",), ("in", 1), node, ("yes",)], 2)

    def test_parts_more_or_fewer(self):
        for node in (("yes",), ("no",), ("in", 1), ("not", 0), ("and", 0, 1), ("or", 0, 1)):
            self.assert_form([("yes",), ("no",), node], 1)
            for other in (node + (0,), node + (1,), node + (None,), node + node, node[:-1], node[1:], node[::-1], (),
                          (node,), ((),)):
                if other != node:
                    self.assert_no_form([("yes",), ("no",), other], 1)

    def test_other_words(self):
        for word in ("Yes", "YES", "yes ", " no", "nope", "", "in ", "variable", "xor", "AND", "y", None, True, 0, 1,
                     ("yes",), ["yes"], "yes\n", "true"):
            for node in ((word,), (word, 1), (word, 0), (word, 0, 0)):
                self.assert_no_form([("yes",), node], 1)

    def test_lists_and_tuples_exchanged(self):
        self.assert_no_form(tuple(GOOD), 2)
        for place, node in enumerate(GOOD):
            self.assert_no_form(GOOD[:place] + [list(node)] + GOOD[place + 1:], 2)
            self.assert_no_form(GOOD[:place] + [[node]] + GOOD[place + 1:], 2)

    def test_no_node(self):
        for most in (0, 1, 40):
            self.assert_no_form([], most)
            self.assert_no_form((), most)

    def test_one_wrong_node_at_any_place(self):
        for place in range(len(GOOD) + 1):
            for wrong in (None, (), [], "yes", 0, True, ("xor", 0, 0), ("in", 3), ("in", 0), [("yes",)]):
                self.assert_no_form(GOOD[:place] + [wrong] + GOOD[place:], 2)

    def test_things_of_other_kinds(self):
        for thing in (None, True, False, 0, 1, -1, MANY_FIGURES, "", "yes", "\n", ("yes",), (("yes",),), ["yes"], [[]],
                      [[[("yes",)]]], [None], [0], [True], ["in", 1], ("in", 1), [("yes",), "no"]):
            for most in (0, 1, 2, 40):
                self.assert_no_form(thing, most)

    def test_nodes_as_many_as_one_likes(self):
        nodes = dense_form(random.Random(60), 12, 2000)
        self.assert_form(nodes, 12)
        self.assert_no_form(nodes, 11)
        self.assert_no_form(nodes + [("not", 2000)], 12)
        self.assert_form(nodes + [("not", 1999)], 12)


class FormTrueTest(unittest.TestCase):
    def test_each_kind_of_node(self):
        for filling in all_fillings(2):
            self.assertIs(form_true([("yes",)], filling), True)
            self.assertIs(form_true([("no",)], filling), False)
            for v in (1, 2):
                self.assertIs(form_true([("in", v)], filling), filling[v - 1])
                self.assertIs(form_true([("in", v), ("not", 0)], filling), not filling[v - 1])
                self.assertIs(form_true([("in", v), ("and", 0, 0)], filling), filling[v - 1])
                self.assertIs(form_true([("in", v), ("or", 0, 0)], filling), filling[v - 1])
            both = [("in", 1), ("in", 2)]
            for i, j in ((0, 1), (1, 0)):
                self.assertIs(form_true(both + [("and", i, j)], filling), filling == [True, True])
                self.assertIs(form_true(both + [("or", i, j)], filling), filling != [False, False])

    def test_the_last_node_is_the_form(self):
        for count in range(1, len(GOOD) + 1):
            for filling in all_fillings(2):
                self.assertIs(form_true(GOOD[:count], filling), plain_form_true(GOOD[:count], filling))
        self.assertIs(form_true([("no",), ("yes",)], []), True)
        self.assertIs(form_true([("yes",), ("no",)], []), False)

    def test_a_node_may_be_named_often(self):
        # Either of the two and not both, with shared nodes.
        nodes = [("in", 1), ("in", 2), ("or", 0, 1), ("and", 0, 1), ("not", 3), ("and", 2, 4)]
        for filling in all_fillings(2):
            self.assertIs(form_true(nodes, filling), filling[0] is not filling[1])
        # Shared so often that each way through would be gone too many times to end.
        nodes = [("in", 1)] + [("and", place, place) for place in range(1500)]
        self.assertIs(form_true(nodes, [True]), True)
        self.assertIs(form_true(nodes, [False]), False)

    def test_a_filling_that_goes_further(self):
        for rest in all_fillings(3):
            self.assertIs(form_true([("in", 1), ("not", 0)], [True] + rest), False)
            self.assertIs(form_true([("yes",)], rest), True)

    def test_against_a_plain_walk(self):
        draw = random.Random(61)
        told = []
        for number in range(300):
            most = draw.choice((0, 1, 2, 4))
            nodes = drawn_form(draw, most, draw.randint(1, 14))
            self.assertIs(is_form(nodes, most), True)
            ahead = list(nodes)
            for filling in all_fillings(most):
                told.append(form_true(nodes, filling))
                self.assertIs(told[-1], plain_form_true(nodes, filling))
            self.assertEqual(nodes, ahead)
        self.assertGreater(min(told.count(True), told.count(False)), 500)

    def test_what_is_no_form_over_the_fillings_variables(self):
        for thing in (None, [], (), 0, "yes", ("yes",), [("in", 3)], [("in", 0)], [("not", 0)],
                      [("yes",), ("in", True)]):
            with self.assertRaises(NoForm) as taken:
                form_true(thing, [True, False])
            self.assertIs(type(taken.exception), NoForm)


if __name__ == "__main__":
    unittest.main()
