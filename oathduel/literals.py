"""Literals and sets of them: whose they are, turned about, joined, and with the drop taken out."""

from oathduel.sentences import hand_of, other_hand


def variables_of(sentence, hand):
    return [variable for variable in range(1, len(sentence[0]) + 1) if hand_of(sentence, variable) == hand]


def turned_about(literals):
    return tuple([-literal for literal in literals])


def stands_both_ways(first, second, variable):
    # The variable that the two sets are joined by stands both ways in them by design, so it does not count.
    return any([-literal in second for literal in first if abs(literal) != variable])


def joined(first, second, variable):
    both = list(first) + [literal for literal in second if literal not in first]
    return tuple(sorted([literal for literal in both if abs(literal) != variable], key=abs))


def dropped(sentence, hand, literals):
    others = variables_of(sentence, other_hand(hand))
    # What stands behind the last of the other hand's variables is the hand's own, so whose it is needn't be asked.
    last = max([abs(literal) for literal in literals if abs(literal) in others], default=0)
    return tuple([literal for literal in literals if abs(literal) <= last])
