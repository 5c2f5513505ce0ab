"""Papers made shorter, and clauses that a paper tells besides."""

from oathduel.errors import NoHand
from oathduel.papers import sets_of, whole_sets
from oathduel.sentences import SPOILER


def named_by(line):
    if line[0] == "join":
        return [line[1], line[2]]
    if line[0] == "drop":
        return [line[1]]
    return []


def renamed(line, numbers):
    if line[0] == "join":
        return ("join", numbers[line[1]], numbers[line[2]], line[3])
    if line[0] == "drop":
        return ("drop", numbers[line[1]])
    return line


def needed_by(lines, last):
    needed = {last: True}
    # A line names lines ahead of it alone, so by the time it is asked for here, all that may need it were asked.
    for place in range(last, -1, -1):
        if place in needed:
            for ahead in named_by(lines[place]):
                needed[ahead] = True
    return sorted(needed)


def first_places(sets):
    places = {}
    for place, literals in enumerate(sets):
        places.setdefault(literals, place)
    return [places[literals] for literals in sets]


def needed_lines(sentence, paper):
    sets = whole_sets(sentence, paper)
    return needed_by(paper[1], len(sets) - 1)


def shortened_paper(sentence, paper):
    sets = whole_sets(sentence, paper)
    firsts = first_places(sets)
    lines = [renamed(line, firsts) for line in paper[1]]
    needed = needed_by(lines, sets.index(()))
    numbers = dict([(place, number) for number, place in enumerate(needed)])
    return (paper[0], [renamed(lines[place], numbers) for place in needed])


def joined_clauses(sentence, paper):
    sets = sets_of(sentence, paper)
    if paper[0] != SPOILER:
        raise NoHand("only a paper of the spoiler's tells clauses")
    clauses = list(sentence[1])
    known = dict([(clause, True) for clause in clauses])
    for literals in sets:
        if literals not in known:
            known[literals] = True
            clauses.append(literals)
    return (sentence[0], clauses)
