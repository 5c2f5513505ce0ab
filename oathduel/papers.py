"""Papers: lines that each come to a set, by the sets of the lines ahead."""

from oathduel.errors import BadLine, NotWhole
from oathduel.literals import dropped, joined, stands_both_ways, variables_of
from oathduel.parts import begins_with, is_number, is_place
from oathduel.sentences import SPOILER, WISHER, is_set, other_hand


def given_set(sentence, place):
    if not is_place(place, len(sentence[1])):
        return None
    return sentence[1][place]


def hits(literals, clause):
    # Papers may have thousands of such lines, so a clause is left at the first literal that is in it.
    for literal in literals:
        if literal in clause:
            return True
    return False


def hits_each(literals, clauses):
    return all([hits(literals, clause) for clause in clauses])


def hits_set(sentence, literals):
    if not is_set(literals, len(sentence[0])) or not hits_each(literals, sentence[1]):
        return None
    return literals


def join_set(sentence, hand, line, ahead):
    variable = line[3]
    if not is_place(line[1], len(ahead)) or not is_place(line[2], len(ahead)) or not is_number(variable):
        return None
    first = ahead[line[1]]
    second = ahead[line[2]]
    if variable not in variables_of(sentence, other_hand(hand)) or variable not in first or -variable not in second:
        return None
    if stands_both_ways(first, second, variable):
        return None
    return joined(first, second, variable)


def drop_set(sentence, hand, place, ahead):
    if not is_place(place, len(ahead)):
        return None
    return dropped(sentence, hand, ahead[place])


def line_set(sentence, hand, line, ahead):
    # A bad line is told by None here and in what is asked below, as sets_of alone knows the place to refuse it by.
    if hand == SPOILER and begins_with(line, "given", 2):
        return given_set(sentence, line[1])
    if hand == WISHER and begins_with(line, "hits", 2):
        return hits_set(sentence, line[1])
    if begins_with(line, "join", 4):
        return join_set(sentence, hand, line, ahead)
    if begins_with(line, "drop", 2):
        return drop_set(sentence, hand, line[1], ahead)
    return None


def sets_of(sentence, paper):
    sets = []
    for place, line in enumerate(paper[1]):
        literals = line_set(sentence, paper[0], line, sets)
        # The empty set counts as no in a truth test, but it is no bad line's answer.
        if literals is None:
            raise BadLine(place)
        sets.append(literals)
    return sets


def end_empty(sets):
    return sets[-1:] == [()]


def is_whole(sentence, paper):
    try:
        sets = sets_of(sentence, paper)
    except BadLine:
        return False
    return end_empty(sets)


def whole_sets(sentence, paper):
    sets = sets_of(sentence, paper)
    if not end_empty(sets):
        raise NotWhole("the last line does not come to the empty set")
    return sets
