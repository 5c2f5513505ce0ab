"""Players: who fills in for a hand, what comes of it, and by what the hand loses."""

from oathduel.errors import NoFilling, NoVariable
from oathduel.literals import variables_of
from oathduel.sentences import WISHER, comes_true, hand_of, other_hand, stands_by


def all_stand(literals, begun):
    # Plans may have thousands of rules, so a rule is left at its first literal that does not stand.
    for literal in literals:
        if not stands_by(literal, begun):
            return False
    return True


class Player:
    # Not made itself: the class that all players stand under.
    pass


class Planned(Player):
    def __init__(self, plan):
        # The plan's lists stay the asker's, who may change them later: so the rules are copied too.
        self.entries = dict([(entry[0], (tuple(entry[1]), entry[2])) for entry in plan])

    def answer(self, variable, begun):
        if variable not in self.entries:
            raise NoVariable("the plan has no such variable")
        entry = self.entries[variable]
        for rule in entry[0]:
            if all_stand(rule[0], begun):
                return rule[1]
        return entry[1]


def played_on(sentence, hand, player, begun):
    # Up to the other hand's next turn: so a walk through its values goes only as deep as it has variables.
    filling = list(begun)
    while len(filling) < len(sentence[0]) and hand_of(sentence, len(filling) + 1) == hand:
        filling.append(player.answer(len(filling) + 1, filling))
    return filling


def played_by(sentence, hand, player, others):
    if len(others) != len(variables_of(sentence, other_hand(hand))):
        raise NoFilling("there must be one value for each variable of the other hand")
    filling = played_on(sentence, hand, player, [])
    for value in others:
        filling = played_on(sentence, hand, player, filling + [value])
    return filling


def first_loss(sentence, hand, player, loses, begun, others):
    filling = played_on(sentence, hand, player, begun)
    if len(filling) == len(sentence[0]):
        return others if loses(filling) else None
    for value in (False, True):
        found = first_loss(sentence, hand, player, loses, filling + [value], others + [value])
        # The empty list is a losing play too, so it is not asked whether there is something in it.
        if found is not None:
            return found
    return None


def losing_play(sentence, hand, player):
    return first_loss(
        sentence, hand, player, lambda filling: comes_true(sentence, filling) != (hand == WISHER), [], []
    )
