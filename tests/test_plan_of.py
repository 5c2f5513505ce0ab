"""Point 19: the plan that is read off a whole paper."""

import unittest

from oathduel.errors import BadLine, NotWhole
from oathduel.plans import is_plan, plan_of
from tests.samples import drawn_sentences, plan_wins, plain_winner, small_sentences, whole_paper


class SpoilersPlanTest(unittest.TestCase):
    def assert_plan(self, sentence, lines, plan):
        self.assertEqual(plan_of(sentence, ("spoiler", lines)), plan)
        self.assertIs(is_plan(sentence, "spoiler", plan), True)

    def test_what_is_left_is_turned_about_and_what_is_taken_out_does_not_stand(self):
        sentence = ("ws", [(1, 2), (-1, -2)])
        lines = [("given", 0), ("drop", 0), ("given", 1), ("drop", 2), ("join", 1, 3, 1)]
        self.assert_plan(sentence, lines, [(2, [((-1,), False), ((1,), True)], False)])

    def test_rules_come_in_the_drop_lines_order(self):
        sentence = ("ws", [(1, 2), (-1, -2)])
        lines = [("given", 1), ("given", 0), ("drop", 0), ("drop", 1), ("join", 3, 2, 1)]
        self.assert_plan(sentence, lines, [(2, [((1,), True), ((-1,), False)], False)])

    def test_one_drop_line_may_tell_rules_for_several_variables(self):
        sentence = ("wsss", [(1, 2, -3, 4), (-1, -2, -4)])
        lines = [("given", 0), ("drop", 0), ("given", 1), ("drop", 2), ("join", 1, 3, 1)]
        plan = [
            (2, [((-1,), False), ((1,), True)], False),
            (3, [((-1,), True)], False),
            (4, [((-1,), False), ((1,), True)], False),
        ]
        self.assert_plan(sentence, lines, plan)

    def test_variables_without_a_drop_have_no_rules(self):
        sentence = ("sswss", [(-2,), (1, 5)])
        plan = [(1, [], False), (2, [((), True)], False), (4, [], False), (5, [], False)]
        self.assert_plan(sentence, [("given", 0), ("drop", 0)], plan)

    def test_what_stays_is_in_the_rules_of_both_hands(self):
        sentence = ("swsws", [(1, 2, -3, 4, 5), (1, 2, -3, -4), (1, -2)])
        lines = [
            ("given", 0), ("drop", 0), ("given", 1), ("join", 1, 2, 4), ("drop", 3), ("given", 2),
            ("join", 4, 5, 2), ("drop", 6),
        ]
        plan = [
            (1, [((), False)], False),
            (3, [((-1, -2), True)], False),
            (5, [((-1, -2, 3, -4), False)], False),
        ]
        self.assert_plan(sentence, lines, plan)

    def test_drops_that_take_nothing_out_tell_no_rule(self):
        sentence = ("sw", [(1, 2), (1, -2)])
        lines = [("given", 0), ("drop", 0), ("given", 1), ("drop", 2), ("join", 1, 3, 2), ("drop", 4), ("drop", 5)]
        self.assert_plan(sentence, lines, [(1, [((), False)], False)])

    def test_each_drop_line_tells_its_rule_though_it_is_alike_or_not_needed(self):
        sentence = ("ws", [(1, 2), (-1, -2), (-2,)])
        lines = [
            ("given", 0), ("drop", 0), ("drop", 0), ("given", 2), ("drop", 3), ("given", 1), ("drop", 5),
            ("join", 2, 6, 1),
        ]
        plan = [(2, [((-1,), False), ((-1,), False), ((), True), ((1,), True)], False)]
        self.assert_plan(sentence, lines, plan)

    def test_drops_behind_an_earlier_empty_set_count_too(self):
        sentence = ("s", [(), (1,), (-1,)])
        lines = [("given", 0), ("given", 2), ("drop", 1), ("given", 1), ("drop", 3)]
        self.assert_plan(sentence, lines, [(1, [((), True), ((), False)], False)])

    def test_edges(self):
        self.assert_plan(("", [()]), [("given", 0)], [])
        self.assert_plan(("ww", [()]), [("given", 0), ("drop", 0)], [])
        self.assert_plan(("wsw", [()]), [("given", 0), ("drop", 0)], [(2, [], False)])
        self.assert_plan(("ss", [(1, 2)]), [("given", 0), ("drop", 0)],
                         [(1, [((), False)], False), (2, [((), False)], False)])


class WishersPlanTest(unittest.TestCase):
    def assert_plan(self, sentence, lines, plan):
        self.assertEqual(plan_of(sentence, ("wisher", lines)), plan)
        self.assertIs(is_plan(sentence, "wisher", plan), True)

    def test_what_is_left_stays_as_it_is_and_what_is_taken_out_stands(self):
        sentence = ("sw", [(1, -2), (-1, 2)])
        lines = [("hits", (1, 2)), ("drop", 0), ("hits", (-1, -2)), ("drop", 2), ("join", 1, 3, 1)]
        self.assert_plan(sentence, lines, [(2, [((1,), True), ((-1,), False)], False)])

    def test_rules_come_in_the_drop_lines_order(self):
        sentence = ("sw", [(1, -2), (-1, 2)])
        lines = [("hits", (1, 2)), ("hits", (-1, -2)), ("drop", 1), ("drop", 0), ("join", 3, 2, 1)]
        self.assert_plan(sentence, lines, [(2, [((-1,), False), ((1,), True)], False)])

    def test_one_drop_line_may_tell_rules_for_several_variables(self):
        sentence = ("swww", [(2, -3), (1, -4), (-1, 2, 4)])
        lines = [("hits", (1, 2, -3, 4)), ("drop", 0), ("hits", (-1, -3, -4)), ("drop", 2), ("join", 1, 3, 1)]
        plan = [
            (2, [((1,), True)], False),
            (3, [((1,), False), ((-1,), False)], False),
            (4, [((1,), True), ((-1,), False)], False),
        ]
        self.assert_plan(sentence, lines, plan)

    def test_what_stays_is_in_the_rules_of_both_hands(self):
        sentence = ("wswsw", [])
        lines = [
            ("hits", (1, 2, -3, 4, 5)), ("drop", 0), ("hits", (1, 2, -3, -4)), ("join", 1, 2, 4), ("drop", 3),
            ("hits", (1, -2)), ("join", 4, 5, 2), ("drop", 6),
        ]
        plan = [
            (1, [((), True)], False),
            (3, [((1, 2), False)], False),
            (5, [((1, 2, -3, 4), True)], False),
        ]
        self.assert_plan(sentence, lines, plan)

    def test_each_drop_line_tells_its_rule_though_it_is_alike_or_not_needed(self):
        lines = [("hits", (1,)), ("drop", 0), ("drop", 0), ("drop", 1), ("hits", (-1, 2)), ("drop", 4)]
        plan = [(1, [((), True), ((), True), ((), False)], False), (2, [((), True)], False)]
        self.assert_plan(("ww", []), lines, plan)

    def test_edges(self):
        self.assert_plan(("", []), [("hits", ())], [])
        self.assert_plan(("ss", []), [("hits", ()), ("drop", 0)], [])
        self.assert_plan(("sws", []), [("hits", ())], [(2, [], False)])
        self.assert_plan(("w", [(-1,)]), [("hits", (-1,)), ("drop", 0)], [(1, [((), False)], False)])


class PlansWinTest(unittest.TestCase):
    def test_plans_win_whatever_the_other_hand_fills_in(self):
        for sentence in small_sentences() + drawn_sentences(211, 40, (6, 7), 12):
            paper = whole_paper(sentence)
            plan = plan_of(sentence, paper)
            self.assertIs(is_plan(sentence, paper[0], plan), True)
            self.assertIs(plan_wins(sentence, paper[0], plan), True, (sentence, paper, plan))

    def test_plain_plans_do_not_always_win(self):
        lost = 0
        for sentence in small_sentences():
            hand = plain_winner(sentence, [])
            plan = [(entry[0], [], False) for entry in plan_of(sentence, whole_paper(sentence))]
            lost += not plan_wins(sentence, hand, plan)
        self.assertGreater(lost, 50)


class RefusalsTest(unittest.TestCase):
    def test_not_whole_where_the_last_set_is_not_empty(self):
        papers = (
            (("ws", [(1, 2)]), ("spoiler", [("given", 0)])),
            (("ws", [(1, 2)]), ("spoiler", [("given", 0), ("drop", 0)])),
            (("ws", [(1,), ()]), ("spoiler", [("given", 1), ("given", 0)])),
            (("ws", []), ("wisher", [("hits", (1,))])),
            (("ws", []), ("wisher", [("hits", (1,)), ("drop", 0), ("hits", (-2,))])),
        )
        for sentence, paper in papers:
            with self.assertRaises(NotWhole):
                plan_of(sentence, paper)

    def test_not_whole_where_there_is_no_line(self):
        for sentence in (("", []), ("", [()]), ("w", []), ("s", [()]), ("ws", [(1,)])):
            for hand in ("wisher", "spoiler"):
                with self.assertRaises(NotWhole):
                    plan_of(sentence, (hand, []))

    def test_every_beginning_of_a_paper_that_is_not_whole(self):
        sentence = ("wsw", [(1, 2, 3), (1, -3), (-1, 2)])
        lines = [
            ("given", 0), ("given", 1), ("join", 0, 1, 3), ("drop", 2), ("given", 2), ("drop", 4), ("join", 3, 5, 1),
        ]
        for length in range(7):
            with self.assertRaises(NotWhole):
                plan_of(sentence, ("spoiler", lines[:length]))
        self.assertEqual(plan_of(sentence, ("spoiler", lines)), [(2, [((-1,), False), ((1,), False)], False)])

    def test_a_bad_line_goes_first(self):
        sentence = ("ws", [(1, 2), ()])
        good = ("given", 0)
        for lines, place in (([None], 0), ([good, ("drop", 1)], 1), ([("given", 2), good], 0), ([good, 0, good], 1),
                             ([("given", 1), ("hits", ()), ("given", 1)], 1), ([good, None, None, ("given", 1)], 1)):
            with self.assertRaises(BadLine) as taken:
                plan_of(sentence, ("spoiler", lines))
            self.assertEqual(taken.exception.place, place)

    def test_a_bad_line_of_the_wishers_goes_first(self):
        for lines, place in (([("hits", (1, 3))], 0), ([("hits", ()), ("given", 0)], 1), ([("hits", ()), None], 1)):
            with self.assertRaises(BadLine) as taken:
                plan_of(("ws", []), ("wisher", lines))
            self.assertEqual(taken.exception.place, place)


if __name__ == "__main__":
    unittest.main()
