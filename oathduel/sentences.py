"""Sets, sentences and fillings: what they are, what stands, what comes true, what is left."""

from oathduel.errors import NoVariable
from oathduel.parts import is_number

WISHER = "wisher"
SPOILER = "spoiler"


def is_set(thing, most):
    if not isinstance(thing, tuple):
        return False
    behind = 0
    for literal in thing:
        if not is_number(literal) or not behind < abs(literal) <= most:
            return False
        behind = abs(literal)
    return True


def is_turns(thing):
    return isinstance(thing, str) and all([sign in ("w", "s") for sign in thing])


def is_sentence(thing):
    if not isinstance(thing, tuple) or len(thing) != 2:
        return False
    turns = thing[0]
    clauses = thing[1]
    if not is_turns(turns) or not isinstance(clauses, list):
        return False
    return all([is_set(clause, len(turns)) for clause in clauses])


def stands_by(literal, filling):
    variable = abs(literal)
    if variable == 0:
        raise NoVariable("there is no variable 0")
    if variable > len(filling):
        return None
    return filling[variable - 1] == (literal > 0)


def some_stands(clause, filling):
    return any([stands_by(literal, filling) for literal in clause])


def comes_true(sentence, filling):
    return all([some_stands(clause, filling) for clause in sentence[1]])


def hand_of(sentence, variable):
    turns = sentence[0]
    if not 1 <= variable <= len(turns):
        # The number stays out of the words: Python refuses to write out one of thousands of figures.
        raise NoVariable("the sentence has no such variable")
    return WISHER if turns[variable - 1] == "w" else SPOILER


def other_hand(hand):
    return SPOILER if hand == WISHER else WISHER


def literal_by(variable, value):
    return variable if value else -variable


def clauses_behind(clauses, literal):
    left = []
    for clause in clauses:
        if literal not in clause:
            left.append(tuple([other for other in clause if other != -literal]))
    return left


def left_of(sentence, begun):
    clauses = list(sentence[1])
    for place, value in enumerate(begun):
        clauses = clauses_behind(clauses, literal_by(place + 1, value))
    return (sentence[0], clauses)
