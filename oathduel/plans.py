"""Plans: what a hand fills in, told by rules; and the plan that is read off a whole paper."""

from oathduel.literals import turned_about, variables_of
from oathduel.papers import whole_sets
from oathduel.parts import is_number
from oathduel.sentences import SPOILER, is_set


def is_rule(thing, variable):
    if not isinstance(thing, tuple) or len(thing) != 2:
        return False
    return is_set(thing[0], variable - 1) and isinstance(thing[1], bool)


def is_rules(thing, variable):
    return isinstance(thing, list) and all([is_rule(rule, variable) for rule in thing])


def is_entry(thing, variable):
    if not isinstance(thing, tuple) or len(thing) != 3:
        return False
    # True equals 1, but it is no variable.
    if not is_number(thing[0]) or thing[0] != variable:
        return False
    return is_rules(thing[1], variable) and isinstance(thing[2], bool)


def is_plan(sentence, hand, plan):
    variables = variables_of(sentence, hand)
    if not isinstance(plan, list) or len(plan) != len(variables):
        return False
    return all([is_entry(entry, variable) for entry, variable in zip(plan, variables)])


def rule_of(hand, literal, left):
    # The spoiler wants the set that is dropped from not to stand, where nothing stands of what is left of it;
    # the wisher wants all of it to stand, where all that is left of it stands.
    if hand == SPOILER:
        return (turned_about(left), literal < 0)
    return (left, literal > 0)


def plan_of(sentence, paper):
    sets = whole_sets(sentence, paper)
    variables = variables_of(sentence, paper[0])
    rules = dict([(variable, []) for variable in variables])
    for line, left in zip(paper[1], sets):
        if line[0] == "drop":
            for literal in sets[line[1]]:
                if literal not in left:
                    rules[abs(literal)].append(rule_of(paper[0], literal, left))
    return [(variable, rules[variable], False) for variable in variables]
