"""The searcher: goes through the begun fillings by and by, and learns lines for either hand's paper."""

from oathduel.errors import NotWhole
from oathduel.literals import dropped, joined
from oathduel.papers import hits
from oathduel.sentences import SPOILER, WISHER, hand_of, literal_by, stands_by
from oathduel.shorter import shortened_paper

MOST_LOOKS = 10000


def rest_behind(rest, literal):
    # A clause that stands is told by None, so that what is left of the others keeps its place.
    if rest is None or literal in rest:
        return None
    # Variables are filled in in their order, and clauses ascend: what goes out can only stand in front.
    return rest[1:] if -literal in rest else rest


def hitting_set(sentence, begun):
    chosen = []
    for clause in sentence[1]:
        if not hits(chosen, clause):
            standing = [literal for literal in clause if stands_by(literal, begun)]
            # The wisher's own literals go out by drops; each of the spoiler's may cost a search and a join.
            wishers = [literal for literal in standing if hand_of(sentence, abs(literal)) == WISHER]
            chosen.append((wishers + standing)[0])
    return tuple(sorted(chosen, key=abs))


class Searcher:
    def __init__(self, sentence):
        self.sentence = (sentence[0], list(sentence[1]))
        self.lines = {SPOILER: [], WISHER: []}
        # For each set that a line comes to, the line's place: no set is learnt twice.
        self.places = {SPOILER: {}, WISHER: {}}
        self.begun = []
        # For each variable filled in, the set by which its hand lost with the other value, or None.
        self.firsts = []
        # What is left of the clauses, ahead of each variable filled in and behind the last. What the spoiler can
        # drop is out from the start: so an empty rest tells that the spoiler wins, as early as it can be seen.
        self.rests = [[dropped(self.sentence, SPOILER, clause) for clause in sentence[1]]]
        self.winner = None

    def put(self, hand, line, literals):
        if literals not in self.places[hand]:
            self.places[hand][literals] = len(self.lines[hand])
            self.lines[hand].append(line)

    def learn(self, hand, line, literals):
        left = dropped(self.sentence, hand, literals)
        self.put(hand, line, literals)
        self.put(hand, ("drop", self.places[hand][literals]), left)
        return left

    def learn_join(self, hand, first, second, variable):
        places = self.places[hand]
        line = ("join", places[first], places[second], variable)
        if -variable in first:
            line = ("join", places[second], places[first], variable)
        return self.learn(hand, line, joined(first, second, variable))

    def fill_in(self, value, first):
        literal = literal_by(len(self.begun) + 1, value)
        self.begun.append(value)
        self.firsts.append(first)
        self.rests.append([rest_behind(rest, literal) for rest in self.rests[-1]])

    def turn_back(self, hand, literals):
        # The set tells that the hand wins from what is begun, and just as well from any filling that agrees with
        # it in the set's variables: so a variable that isn't there needn't be tried with its other value.
        # One of the hand's own isn't there by now, as it would be the last one and so dropped.
        while self.begun:
            variable = len(self.begun)
            value = self.begun.pop()
            first = self.firsts.pop()
            self.rests.pop()
            if variable in literals or -variable in literals:
                if first is None:
                    self.fill_in(not value, literals)
                    return
                literals = self.learn_join(hand, first, literals, variable)
        self.winner = hand

    def look(self):
        rests = self.rests[-1]
        if () in rests:
            place = rests.index(())
            self.turn_back(SPOILER, self.learn(SPOILER, ("given", place), self.sentence[1][place]))
        elif rests.count(None) == len(rests):
            literals = hitting_set(self.sentence, self.begun)
            self.turn_back(WISHER, self.learn(WISHER, ("hits", literals), literals))
        else:
            self.fill_in(False, None)

    def go(self, many):
        looks = 0
        while looks < many and self.winner is None:
            self.look()
            looks += 1
        return self.winner is not None

    def learnt(self):
        return ((SPOILER, list(self.lines[SPOILER])), (WISHER, list(self.lines[WISHER])))

    def paper(self):
        if self.winner is None:
            raise NotWhole("the sentence is not settled yet")
        # The empty set settles the sentence at once, so its line is the last one of the winner's.
        return shortened_paper(self.sentence, (self.winner, self.lines[self.winner]))


def settled_paper(sentence):
    searcher = Searcher(sentence)
    while not searcher.go(MOST_LOOKS):
        pass
    return searcher.paper()
