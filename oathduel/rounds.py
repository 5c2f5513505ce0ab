"""Games: rounds of choices that make one state out of another; who wins them, and the form they unroll to."""

from oathduel.errors import NoForm, TooMany
from oathduel.parts import is_number
from oathduel.sentences import SPOILER, WISHER, is_turns
from oathduel.shapes import form_value, is_form
from oathduel.walks import winner_by

MOST_BITS = 6
MOST_TURNS = 4
MOST_ROUNDS = 4


def is_state(thing, bits):
    if not isinstance(thing, list) or len(thing) != bits:
        return False
    return all([isinstance(bit, bool) for bit in thing])


def are_forms(thing, many, most):
    if not isinstance(thing, list) or len(thing) != many:
        return False
    return all([is_form(form, most) for form in thing])


def is_game(thing):
    if not isinstance(thing, tuple) or len(thing) != 5:
        return False
    bits = thing[0]
    turns = thing[2]
    if not is_number(bits) or not 1 <= bits <= MOST_BITS or not is_state(thing[1], bits):
        return False
    if not is_turns(turns) or not 1 <= len(turns) <= MOST_TURNS:
        return False
    return are_forms(thing[3], bits, bits + len(turns)) and is_form(thing[4], bits)


def check_game(game, rounds):
    if not is_game(game):
        raise NoForm("this is no game")
    if not 0 <= rounds <= MOST_ROUNDS:
        # The number stays out of the words: Python refuses to write out one of thousands of figures.
        raise TooMany("the rounds are out of their range")


def next_state(game, state, choices):
    return [form_value(form, state + choices) for form in game[3]]


def ends_good(game, rounds, state, known):
    # Many ways to choose come to the same state: it is gone on from once only, for each count of rounds to come.
    asked = (rounds, tuple(state))
    if asked not in known:
        known[asked] = wins_round(game, rounds, state, known)
    return known[asked]


def wins_round(game, rounds, state, known):
    if rounds == 0:
        return form_value(game[4], state)
    winner = winner_by(
        game[2], [], lambda choices: ends_good(game, rounds - 1, next_state(game, state, choices), known)
    )
    return winner == WISHER


def game_winner(game, rounds):
    check_game(game, rounds)
    return WISHER if ends_good(game, rounds, game[1], {}) else SPOILER


def put_node(nodes, node):
    nodes.append(node)
    return len(nodes) - 1


def put_form(nodes, form, inputs):
    # The inputs are the places of the nodes that stand for the form's variables: so no variable is put twice.
    places = []
    for node in form:
        if node[0] == "in":
            places.append(inputs[node[1] - 1])
        else:
            named = [places[place] for place in node[1:]]
            places.append(put_node(nodes, tuple([node[0]] + named)))
    return places[-1]


def unrolled_game(game, rounds):
    check_game(game, rounds)
    turns = game[2]
    nodes = []
    state = [put_node(nodes, ("yes",) if bit else ("no",)) for bit in game[1]]
    for number in range(rounds):
        begin = number * len(turns) + 1
        choices = [put_node(nodes, ("in", begin + place)) for place in range(len(turns))]
        state = [put_form(nodes, form, state + choices) for form in game[3]]
    last = put_form(nodes, game[4], state)
    if last != len(nodes) - 1:
        # A form is its last node, but a good state may be told by a bit that stands further ahead.
        put_node(nodes, ("and", last, last))
    return (turns * rounds, nodes)
