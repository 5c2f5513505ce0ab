"""Players: who fills in for a hand, what comes of it, and by what the hand loses."""

from oathduel.errors import NoFilling, NoVariable
from oathduel.literals import variables_of
from oathduel.sentences import WISHER, comes_true, hand_of, other_hand, stands_by


def all_stand(literals, begun):
    # Plans may have thousands of rules, so a rule is left at its first literal that does not stand.
    for literal in literals:
        if not stands_by(literal, begun):
            return False
    return True


class Player:
    # Not made itself: the class that all players stand under.
    pass


class Planned(Player):
    def __init__(self, plan):
        # The plan's lists stay the asker's, who may change them later: so the rules are copied too.
        self.entries = dict([(entry[0], (tuple(entry[1]), entry[2])) for entry in plan])

    def answer(self, variable, begun):
        if variable not in self.entries:
            raise NoVariable("the plan has no such variable")
        entry = self.entries[variable]
        for rule in entry[0]:
            if all_stand(rule[0], begun):
                return rule[1]
        return entry[1]


def played_by(sentence, hand, player, others):
    if len(others) != len(variables_of(sentence, other_hand(hand))):
        raise NoFilling("there must be one value for each variable of the other hand")
    behind = list(others)
    filling = []
    for variable in range(1, len(sentence[0]) + 1):
        if hand_of(sentence, variable) == hand:
            filling.append(player.answer(variable, filling))
        else:
            filling.append(behind.pop(0))
    return filling


def loses_by(sentence, hand, filling):
    return comes_true(sentence, filling) != (hand == WISHER)


def losing_from(sentence, hand, player, begun, others):
    variable = len(begun) + 1
    if variable > len(sentence[0]):
        return others if loses_by(sentence, hand, begun) else None
    if hand_of(sentence, variable) == hand:
        return losing_from(sentence, hand, player, begun + [player.answer(variable, begun)], others)
    for value in (False, True):
        found = losing_from(sentence, hand, player, begun + [value], others + [value])
        # The empty list is a losing play too, so it is not asked whether there is something in it.
        if found is not None:
            return found
    return None


def losing_play(sentence, hand, player):
    return losing_from(sentence, hand, player, [], [])
