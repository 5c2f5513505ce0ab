"""Steps: sentences made smaller, and players of a smaller sentence led back to the one ahead of the step."""

from oathduel.errors import BadStep
from oathduel.literals import dropped, variables_of
from oathduel.parts import begins_with, is_number, is_place
from oathduel.players import Player
from oathduel.sentences import SPOILER, WISHER, clauses_behind, hand_of, some_stands


def is_of(sentence, literal, hand):
    return hand_of(sentence, abs(literal)) == hand


def is_unit(sentence, clause):
    return len(clause) == 1 and is_of(sentence, clause[0], WISHER)


def holds_all(clause, literals):
    for literal in literals:
        if literal not in clause:
            return False
    return True


def has_other_way(clause, other, literal):
    # Whether a lesser variable than the literal's stands in the one clause the other way about than in the other.
    for ahead in other:
        if abs(ahead) >= abs(literal):
            return False
        if -ahead in clause:
            return True
    return False


def is_blocked(clause, literal, opposed):
    for other in opposed:
        if not has_other_way(clause, other, literal):
            return False
    return True


def behind_drop(sentence, place):
    clauses = sentence[1]
    if not is_place(place, len(clauses)):
        return None
    return clauses[:place] + [dropped(sentence, SPOILER, clauses[place])] + clauses[place + 1:]


def behind_unit(sentence, place):
    clauses = sentence[1]
    if not is_place(place, len(clauses)) or not is_unit(sentence, clauses[place]):
        return None
    return clauses_behind(clauses, clauses[place][0])


def behind_pure(sentence, literal):
    clauses = sentence[1]
    if not is_number(literal) or not any([literal in clause for clause in clauses]):
        return None
    if any([-literal in clause for clause in clauses]):
        return None
    # The hand whose literal it is takes it as it likes it best: the wisher to stand, the spoiler not to.
    return clauses_behind(clauses, literal if is_of(sentence, literal, WISHER) else -literal)


def behind_within(sentence, place, within):
    clauses = sentence[1]
    if not is_place(place, len(clauses)) or not is_place(within, len(clauses)) or place == within:
        return None
    if not holds_all(clauses[place], clauses[within]):
        return None
    return clauses[:place] + clauses[place + 1:]


def behind_blocked(sentence, place, literal):
    clauses = sentence[1]
    if not is_place(place, len(clauses)) or not is_number(literal) or literal not in clauses[place]:
        return None
    opposed = [clause for clause in clauses if -literal in clause]
    if not is_of(sentence, literal, WISHER) or not is_blocked(clauses[place], literal, opposed):
        return None
    return clauses[:place] + clauses[place + 1:]


def clauses_after(sentence, step):
    # What is no step is told by None, here and in what is asked above.
    if begins_with(step, "drop", 2):
        return behind_drop(sentence, step[1])
    if begins_with(step, "unit", 2):
        return behind_unit(sentence, step[1])
    if begins_with(step, "pure", 2):
        return behind_pure(sentence, step[1])
    if begins_with(step, "within", 3):
        return behind_within(sentence, step[1], step[2])
    if begins_with(step, "blocked", 3):
        return behind_blocked(sentence, step[1], step[2])
    return None


def smaller_by(sentence, step):
    clauses = clauses_after(sentence, step)
    # No clause at all counts as no in a truth test, but it is what may be left behind a step.
    if clauses is None:
        raise BadStep("the sentence has no such step")
    return (sentence[0], clauses)


def next_short(sentence):
    for place, clause in enumerate(sentence[1]):
        if is_unit(sentence, clause):
            return ("unit", place)
        # A clause ascends: so a drop takes something out just where the last literal is the spoiler's.
        if clause and is_of(sentence, clause[-1], SPOILER):
            return ("drop", place)
    return None


def holders_of(clauses):
    # For each literal the places of the clauses that have it: sentences made of forms have thousands of clauses,
    # too many to ask each one about each other one.
    holders = {}
    for place, clause in enumerate(clauses):
        for literal in clause:
            holders.setdefault(literal, []).append(place)
    return holders


def next_pure(holders):
    for literal in holders:
        if -literal not in holders:
            return ("pure", literal)
    return None


def fewest_holders(holders, literals, many):
    # What has all of the literals has the one that the fewest have; and each clause has all of none.
    if not literals:
        return list(range(many))
    return min([holders[literal] for literal in literals], key=len)


def next_within(clauses, holders):
    for within, literals in enumerate(clauses):
        for place in fewest_holders(holders, literals, len(clauses)):
            if place != within and holds_all(clauses[place], literals):
                return ("within", place, within)
    return None


def next_blocked(sentence, holders):
    clauses = sentence[1]
    for place, clause in enumerate(clauses):
        for literal in [literal for literal in clause if is_of(sentence, literal, WISHER)]:
            opposed = [clauses[other] for other in holders.get(-literal, [])]
            if is_blocked(clause, literal, opposed):
                return ("blocked", place, literal)
    return None


def next_step(sentence):
    step = next_short(sentence)
    if step is not None:
        return step
    holders = holders_of(sentence[1])
    step = next_pure(holders)
    if step is not None:
        return step
    step = next_within(sentence[1], holders)
    if step is not None:
        return step
    return next_blocked(sentence, holders)


def all_smaller(sentence):
    steps = []
    left = sentence
    step = next_step(left)
    while step is not None:
        steps.append(step)
        left = smaller_by(left, step)
        step = next_step(left)
    return steps


def own_values(sentence, step, hand):
    # For each variable that is not always left to the inner player: the literals none of which may stand, and the
    # value that it then has.
    clauses = sentence[1]
    if step[0] == "drop" and hand == SPOILER:
        clause = clauses[step[1]]
        left = dropped(sentence, SPOILER, clause)
        return dict([(abs(literal), (left, literal < 0)) for literal in clause if literal not in left])
    if step[0] == "unit" and hand == WISHER:
        literal = clauses[step[1]][0]
        return {abs(literal): ((), literal > 0)}
    if step[0] == "pure" and is_of(sentence, step[1], hand):
        return {abs(step[1]): ((), (step[1] > 0) == (hand == WISHER))}
    if step[0] == "blocked" and hand == WISHER:
        lesser = [literal for literal in clauses[step[1]] if abs(literal) < abs(step[2])]
        return {abs(step[2]): (tuple(lesser), step[2] > 0)}
    return {}


def led_value(values, variable, begun, inner):
    if variable in values and not some_stands(values[variable][0], begun):
        return values[variable][1]
    return inner


class LedBack(Player):
    # However many players are led back behind one another, one walk through the lesser variables fills in for all
    # of them: each asking the one within about each variable anew would cost more with each player by far.
    def __init__(self, sentence, step, hand, player):
        self.variables = dict([(variable, True) for variable in variables_of(sentence, hand)])
        # From the innermost player outwards, here and below.
        self.innermost = player
        self.layers = []
        if isinstance(player, LedBack):
            self.innermost = player.innermost
            self.layers.extend(player.layers)
        self.layers.append(own_values(sentence, step, hand))

    def answers(self, variable, fillings):
        told = [self.innermost.answer(variable, fillings[0])]
        for values, begun in zip(self.layers, fillings[1:]):
            told.append(led_value(values, variable, begun, told[-1]))
        return told

    def answer(self, variable, begun):
        if variable not in self.variables:
            # The innermost player refuses it whatever is begun, so there is nothing to be filled in for it.
            return self.innermost.answer(variable, begun)
        fillings = [[] for values in self.layers]
        for lesser in range(1, variable):
            if lesser in self.variables:
                told = self.answers(lesser, fillings + [begun])
            else:
                told = [begun[lesser - 1] for filling in fillings]
            for filling, value in zip(fillings, told):
                filling.append(value)
        return self.answers(variable, fillings + [begun])[-1]


def player_back(sentence, step, hand, player):
    # The smaller sentence is not needed here, but its refusal is.
    smaller_by(sentence, step)
    return LedBack(sentence, step, hand, player)
