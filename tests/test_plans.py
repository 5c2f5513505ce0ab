"""Point 16: what is a plan of a hand, asked of anything."""

import unittest

from oathduel.plans import is_plan
from tests.samples import MANY_FIGURES, TOO_MANY_TO_WRITE

SENTENCE = ("wswsw", [(1, 2), (-3, 4), ()])
WISHERS = [(1, [], True), (3, [((1, -2), True), ((), False)], False), (5, [((-2, 3, 4), True)], True)]
SPOILERS = [(2, [((-1,), True), ((1,), False)], False), (4, [], False)]

NO_VALUES = (None, 0, 1, -1, "", "True", "yes", (), (True,), [], [False])
THINGS = (
    None, True, False, 0, 1, MANY_FIGURES, "", "wisher", "plan", (), (1,), (True,), ((),), [[]], [()], [None], [True],
    [1], ["w"], [1, [], False], (1, [], False), [[], []], [(), ()], [None, None], [1, 3, 5], [(), (), ()],
)


def changed(things, place, thing):
    """The list or tuple with another thing in this place."""
    parts = list(things)
    parts[place] = thing
    return parts if isinstance(things, list) else tuple(parts)


class IsPlanTest(unittest.TestCase):
    def assert_told(self, answer, plan, hand="wisher", sentence=SENTENCE):
        self.assertIs(is_plan(sentence, hand, plan), answer)

    def assert_entry(self, answer, entry):
        """The plan with this for variable 3."""
        self.assert_told(answer, changed(WISHERS, 1, entry))

    def assert_rule(self, answer, rule):
        """The rule for variable 3 alone, ahead of another one and behind it."""
        other = ((1,), True)
        for rules in ([rule], [rule, other], [other, rule], [other, rule, other]):
            self.assert_entry(answer, (3, rules, False))


class PlansTest(IsPlanTest):
    def test_plans_of_either_hand(self):
        self.assert_told(True, WISHERS)
        self.assert_told(True, SPOILERS, "spoiler")

    def test_not_of_the_other_hand(self):
        self.assert_told(False, WISHERS, "spoiler")
        self.assert_told(False, SPOILERS)

    def test_no_rules(self):
        for value in (True, False):
            self.assert_told(True, [(1, [], value), (3, [], value), (5, [], value)])
            self.assert_told(True, [(2, [], value), (4, [], value)], "spoiler")

    def test_several_rules_in_any_order_and_more_than_once(self):
        self.assert_entry(True, (3, [((), True), ((-2,), False), ((1, 2), True), ((-2,), True), ((), True)], True))
        self.assert_entry(True, (3, [((1, -2), False)] * 2000, True))

    def test_a_hand_without_variables(self):
        for sentence in (("", []), ("", [()]), ("ss", [(1,)])):
            self.assert_told(True, [], "wisher", sentence)
            self.assert_told(False, [(1, [], False)], "wisher", sentence)
        self.assert_told(True, [], "spoiler", ("ww", []))
        self.assert_told(False, (), "spoiler", ("ww", []))
        self.assert_told(False, None, "wisher", ("", []))

    def test_one_variable(self):
        self.assert_told(True, [(1, [((), True)], False)], "wisher", ("w", []))
        self.assert_told(True, [(1, [((), True)], False)], "spoiler", ("s", []))
        self.assert_told(False, [(1, [((), True)], False)], "spoiler", ("w", []))
        self.assert_told(False, [(1, [((1,), True)], False)], "wisher", ("w", []))

    def test_as_large_as_sentences_come(self):
        sentence = ("ws" * 20, [])
        plan = [(variable, [(tuple(range(1, variable)), True)], False) for variable in range(2, 41, 2)]
        self.assert_told(True, plan, "spoiler", sentence)
        self.assert_told(False, plan, "wisher", sentence)
        self.assert_told(False, changed(plan, 19, (40, [(tuple(range(1, 41)), True)], False)), "spoiler", sentence)


class OneThingWrongTest(IsPlanTest):
    def test_sets_of_lesser_variables_are_right(self):
        for literals in ((), (1,), (-1,), (2,), (-2,), (1, 2), (-1, -2)):
            self.assert_rule(True, (literals, True))

    def test_a_set_with_the_variable_itself_or_one_beyond_it(self):
        for literals in ((3,), (-3,), (1, 3), (1, -3), (1, 2, 3), (4,), (1, -4), (5,), (6,), (2, 7), (-MANY_FIGURES,),
                         (TOO_MANY_TO_WRITE,)):
            self.assert_rule(False, (literals, True))

    def test_a_set_that_is_none(self):
        for literals in ((2, 1), (-2, 1), (1, 1), (1, -1), (-2, 2), (0,), (0, 1), (True,), (True, 2), (1, False),
                         ("1",), (1, None), ((1,),), ([],), [], [1], [1, 2], [1, -2], None, True, 1, "", "12"):
            self.assert_rule(False, (literals, True))

    def test_a_value_that_is_none(self):
        for value in NO_VALUES:
            self.assert_rule(False, ((1, -2), value))

    def test_an_otherwise_that_is_none(self):
        for value in NO_VALUES:
            self.assert_entry(False, (3, [], value))
            self.assert_entry(False, (3, [((1,), True)], value))

    def test_a_rule_with_a_part_more_or_fewer(self):
        for rule in ((), ((1,),), (True,), ((1,), True, True), ((1,), True, None), (1, 2, True)):
            self.assert_rule(False, rule)

    def test_a_rule_that_is_no_tuple(self):
        for rule in (None, True, 1, "", "12", [], [(1,), True], [[1], True]):
            self.assert_rule(False, rule)

    def test_rules_that_are_no_list(self):
        for rules in (None, True, 0, "", (), (((1,), True),), ((1,), True), ([((1,), True)],)):
            self.assert_entry(False, (3, rules, False))

    def test_an_entry_with_a_part_more_or_fewer(self):
        for entry in ((), (3,), (3, []), (3, False), ([], False), (3, [], False, False), (3, [], False, None),
                      (3, [], [], False)):
            self.assert_entry(False, entry)

    def test_an_entry_that_is_no_tuple(self):
        for entry in (None, True, False, 3, "", "3", [], [3, [], False], [(3, [], False)]):
            self.assert_entry(False, entry)

    def test_a_variable_of_the_other_hand_or_none(self):
        for variable in (2, 4, 1, 5, 0, -3, 6, MANY_FIGURES, TOO_MANY_TO_WRITE, None, "3", (3,), [3]):
            self.assert_entry(False, (variable, [], False))

    def test_true_and_false_are_no_variables(self):
        self.assert_told(False, changed(WISHERS, 0, (True, [], True)))
        self.assert_told(False, [(True, [], False)], "spoiler", ("s", []))

    def test_variables_left_out(self):
        for place in range(3):
            self.assert_told(False, WISHERS[:place] + WISHERS[place + 1:])
        for place in range(2):
            self.assert_told(False, SPOILERS[:place] + SPOILERS[place + 1:], "spoiler")
        self.assert_told(False, [])
        self.assert_told(False, [], "spoiler")

    def test_variables_twice(self):
        for place in range(3):
            self.assert_told(False, WISHERS[:place] + [WISHERS[place]] + WISHERS[place:])
            for other in range(3):
                if other != place:
                    self.assert_told(False, changed(WISHERS, other, WISHERS[place]))

    def test_variables_of_both_hands(self):
        both = [WISHERS[0], SPOILERS[0], WISHERS[1], SPOILERS[1], WISHERS[2]]
        self.assert_told(False, both)
        self.assert_told(False, both, "spoiler")

    def test_another_order(self):
        plain = [(1, [], False), (3, [], False), (5, [], False)]
        for order in ((0, 2, 1), (1, 0, 2), (1, 2, 0), (2, 0, 1), (2, 1, 0)):
            self.assert_told(False, [plain[place] for place in order])
        self.assert_told(False, SPOILERS[::-1], "spoiler")

    def test_one_more_than_the_variables(self):
        self.assert_told(False, WISHERS + [(6, [], False)])
        self.assert_told(False, WISHERS + [(7, [], False)])
        self.assert_told(False, WISHERS + [None])
        self.assert_told(False, [(0, [], False)] + WISHERS)

    def test_lists_as_tuples_and_tuples_as_lists(self):
        self.assert_told(False, tuple(WISHERS))
        self.assert_told(False, tuple(SPOILERS), "spoiler")
        self.assert_told(False, [list(entry) for entry in WISHERS])
        for place in range(3):
            self.assert_told(False, changed(WISHERS, place, list(WISHERS[place])))
            variable, rules, otherwise = WISHERS[place]
            self.assert_told(False, changed(WISHERS, place, (variable, tuple(rules), otherwise)))
        self.assert_rule(False, [(1, -2), True])
        self.assert_rule(False, ([1, -2], True))

    def test_the_wrong_thing_in_each_place_of_a_plan(self):
        for place in range(3):
            for wrong in (None, (), [], 1, (WISHERS[place][0], [], None), (WISHERS[place][0], [None], True)):
                self.assert_told(False, changed(WISHERS, place, wrong))

    def test_things_that_are_no_plan_at_all(self):
        for thing in THINGS:
            self.assert_told(False, thing)
            self.assert_told(False, thing, "spoiler")
            self.assert_told(False, thing, "wisher", ("w", []))
            self.assert_told(False, thing, "spoiler", ("ws", []))


if __name__ == "__main__":
    unittest.main()
