"""Forms: nodes that name nodes ahead of them; what they come to, the sentence that is made of one, and who wins."""

from oathduel.errors import NoForm
from oathduel.parts import begins_with, is_number, is_place
from oathduel.players import first_loss
from oathduel.sentences import WISHER
from oathduel.walks import winner_by


def is_node(thing, place, most):
    if begins_with(thing, "in", 2):
        return is_number(thing[1]) and 1 <= thing[1] <= most
    if begins_with(thing, "not", 2):
        return is_place(thing[1], place)
    if begins_with(thing, "and", 3) or begins_with(thing, "or", 3):
        return is_place(thing[1], place) and is_place(thing[2], place)
    return begins_with(thing, "yes", 1) or begins_with(thing, "no", 1)


def is_form(thing, most):
    if not isinstance(thing, list) or not thing:
        return False
    return all([is_node(node, place, most) for place, node in enumerate(thing)])


def check_form(nodes, most):
    if not is_form(nodes, most):
        raise NoForm("this is no form over these variables")


def node_value(node, ahead, filling):
    word = node[0]
    if word == "in":
        return filling[node[1] - 1]
    if word == "not":
        return not ahead[node[1]]
    if word == "and":
        return ahead[node[1]] and ahead[node[2]]
    if word == "or":
        return ahead[node[1]] or ahead[node[2]]
    return word == "yes"


def form_value(nodes, filling):
    values = []
    for node in nodes:
        values.append(node_value(node, values, filling))
    return values[-1]


def form_true(nodes, filling):
    check_form(nodes, len(filling))
    return form_value(nodes, filling)


def both(first, second):
    # Two nodes may be one and the same; of two, the later may be named first.
    if first == second:
        return (first,)
    return tuple(sorted([first, second], key=abs))


def node_clauses(node, begin, variable):
    word = node[0]
    if word == "yes":
        return [(variable,)]
    if word == "no":
        return [(-variable,)]
    if word == "in":
        return [(node[1], -variable), (-node[1], variable)]
    first = begin + node[1]
    if word == "not":
        return [(first, variable), (-first, -variable)]
    second = begin + node[2]
    if word == "and":
        return [(first, -variable), (second, -variable), both(-first, -second) + (variable,)]
    return [(-first, variable), (-second, variable), both(first, second) + (-variable,)]


def clauses_of(turns, nodes):
    check_form(nodes, len(turns))
    begin = len(turns) + 1
    clauses = []
    for place, node in enumerate(nodes):
        clauses.extend(node_clauses(node, begin, begin + place))
    clauses.append((len(turns) + len(nodes),))
    return (turns + "w" * len(nodes), clauses)


def form_winner(turns, nodes):
    check_form(nodes, len(turns))
    return winner_by(turns, [], lambda filling: form_value(nodes, filling))


def form_losing_play(turns, nodes, hand, player):
    check_form(nodes, len(turns))
    return first_loss(
        (turns, []), hand, player, lambda filling: form_value(nodes, filling) != (hand == WISHER), [], []
    )
