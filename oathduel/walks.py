"""Who wins: a walk through the fillings."""

from oathduel.sentences import SPOILER, WISHER, clauses_behind, hand_of, left_of, literal_by, other_hand


def winner_left(turns, clauses, variable):
    # Once a clause is empty, or none is left, nothing filled in later changes who wins:
    # so behind a whole filling, and often far ahead of it, the walk ends here.
    if () in clauses:
        return SPOILER
    if not clauses:
        return WISHER
    hand = hand_of((turns, clauses), variable)
    for value in (False, True):
        left = clauses_behind(clauses, literal_by(variable, value))
        if winner_left(turns, left, variable + 1) == hand:
            return hand
    return other_hand(hand)


def winner_of(sentence):
    return winner_from(sentence, [])


def winner_from(sentence, begun):
    left = left_of(sentence, begun)
    return winner_left(left[0], left[1], len(begun) + 1)


def winning_choices(sentence, begun):
    hand = hand_of(sentence, len(begun) + 1)
    return [value for value in (False, True) if winner_from(sentence, begun + [value]) == hand]


def winner_by(turns, begun, comes_out):
    # Forms and rounds have no clauses by which the walk could end early: they are asked of whole fillings alone.
    if len(begun) == len(turns):
        return WISHER if comes_out(begun) else SPOILER
    hand = hand_of((turns, []), len(begun) + 1)
    for value in (False, True):
        if winner_by(turns, begun + [value], comes_out) == hand:
            return hand
    return other_hand(hand)
