"""What several tests need: sentences to try, things that are none, and a plain walk to check against."""

import itertools
import random

MANY_FIGURES = 10 ** 59 + 7
TOO_MANY_TO_WRITE = 10 ** 5000


def all_sets(most):
    """Every set of variables from 1 to most."""
    choices = itertools.product((0, 1, -1), repeat=most)
    return [tuple(sign * (k + 1) for k, sign in enumerate(signs) if sign) for signs in choices]


def all_turns(count):
    return ["".join(signs) for signs in itertools.product("ws", repeat=count)]


def all_fillings(count):
    return [list(values) for values in itertools.product((False, True), repeat=count)]


def all_begun(count):
    """Every begun filling of so many variables, the empty one and the whole ones among them."""
    return [begun for length in range(count + 1) for begun in all_fillings(length)]


def tiny_sentences():
    """Every sentence of at most two variables and two clauses."""
    return [
        (turns, list(clauses))
        for count in range(3)
        for turns in all_turns(count)
        for length in range(3)
        for clauses in itertools.product(all_sets(count), repeat=length)
    ]


def drawn_set(draw, count):
    return tuple(
        variable * draw.choice((1, -1))
        for variable in sorted(draw.sample(range(1, count + 1), draw.randint(1, min(3, count))))
    )


def drawn_sentence(draw, count, most_clauses):
    turns = "".join(draw.choice("ws") for k in range(count))
    return (turns, [drawn_set(draw, count) for k in range(draw.randint(0, most_clauses))])


def drawn_sentences(seed, many, counts, most_clauses):
    """The same drawing every time, as the seed is written down."""
    draw = random.Random(seed)
    return [drawn_sentence(draw, draw.choice(counts), most_clauses) for k in range(many)]


def small_sentences():
    return tiny_sentences() + drawn_sentences(1107, 400, (3, 4, 5), 9)


def plainly_true(sentence, filling):
    return all(any(filling[abs(literal) - 1] is (literal > 0) for literal in clause) for clause in sentence[1])


def plain_hand(sentence, variable):
    return {"w": "wisher", "s": "spoiler"}[sentence[0][variable - 1]]


def plain_winner(sentence, begun):
    """Who wins, by every whole filling behind what is begun and nothing cleverer."""
    if len(begun) == len(sentence[0]):
        return "wisher" if plainly_true(sentence, begun) else "spoiler"
    hand = plain_hand(sentence, len(begun) + 1)
    winners = [plain_winner(sentence, begun + [value]) for value in (True, False)]
    if hand in winners:
        return hand
    return "spoiler" if hand == "wisher" else "wisher"


def plain_choices(sentence, begun):
    hand = plain_hand(sentence, len(begun) + 1)
    return [value for value in (False, True) if plain_winner(sentence, begun + [value]) == hand]


def other_of(hand):
    return "spoiler" if hand == "wisher" else "wisher"


def plain_variables(sentence, hand):
    return [k + 1 for k in range(len(sentence[0])) if plain_hand(sentence, k + 1) == hand]


def plain_drop(sentence, hand, literals):
    """The set without the hand's literals whose variable is greater than each one of the other hand's."""
    others = [abs(literal) for literal in literals if plain_hand(sentence, abs(literal)) != hand]
    return tuple(
        literal for literal in literals
        if plain_hand(sentence, abs(literal)) != hand or not all(abs(literal) > other for other in others)
    )


def plain_join(first, second, variable):
    """All literals of both but the variable's: not asked whether a variable stands both ways."""
    both = {literal for literal in first + second if abs(literal) != variable}
    return tuple(sorted(both, key=lambda literal: (abs(literal), literal)))


def plain_line_set(sentence, hand, line, sets):
    """What a line of one of the four words and of whole numbers comes to; None where it, or one it names, is bad."""
    word = line[0]
    if word == "given":
        return dict(enumerate(sentence[1])).get(line[1]) if hand == "spoiler" else None
    if word == "hits":
        hit = all(set(clause) & set(line[1]) for clause in sentence[1])
        return line[1] if hand == "wisher" and hit else None
    named = line[1:2] if word == "drop" else line[1:3]
    if not all(0 <= number < len(sets) and sets[number] is not None for number in named):
        return None
    if word == "drop":
        return plain_drop(sentence, hand, sets[line[1]])
    first, second, variable = sets[line[1]], sets[line[2]], line[3]
    if variable not in plain_variables(sentence, other_of(hand)) or variable not in first or -variable not in second:
        return None
    both = plain_join(first, second, variable)
    return None if any(-literal in both for literal in both) else both


class PaperMaker:
    """Makes a whole paper of the hand that wins, by a walk through the fillings."""

    def __init__(self, sentence):
        self.sentence = sentence
        self.hand = plain_winner(sentence, [])
        self.lines = []
        self.sets = []
        self.walk([])

    def put(self, line, literals):
        self.lines.append(line)
        self.sets.append(literals)
        return len(self.lines) - 1

    def put_with_drop(self, line, literals):
        place = self.put(line, literals)
        left = plain_drop(self.sentence, self.hand, literals)
        return place if left == literals else self.put(("drop", place), left)

    def put_end(self, filling):
        standing = tuple(k + 1 if value else -k - 1 for k, value in enumerate(filling))
        if self.hand == "wisher":
            return self.put_with_drop(("hits", standing), standing)
        clauses = self.sentence[1]
        place = [k for k, clause in enumerate(clauses) if not set(clause) & set(standing)][0]
        return self.put_with_drop(("given", place), clauses[place])

    def walk(self, begun):
        """The place of a line that tells that the hand wins from what is begun."""
        if len(begun) == len(self.sentence[0]):
            return self.put_end(begun)
        variable = len(begun) + 1
        if plain_hand(self.sentence, variable) == self.hand:
            return self.walk(begun + plain_choices(self.sentence, begun)[:1])
        # By the filling with no, the spoiler's set has v and the wisher's -v, if they have the variable at all.
        values = (False, True) if self.hand == "spoiler" else (True, False)
        places = [self.walk(begun + [value]) for value in values]
        for place, literal in zip(places, (variable, -variable)):
            if literal not in self.sets[place]:
                # The last line is to be the one that tells it.
                return self.put(("drop", place), plain_drop(self.sentence, self.hand, self.sets[place]))
        literals = plain_join(self.sets[places[0]], self.sets[places[1]], variable)
        return self.put_with_drop(("join", places[0], places[1], variable), literals)


def whole_paper(sentence):
    maker = PaperMaker(sentence)
    return (maker.hand, maker.lines)


def plain_filling(sentence, hand, plan, others):
    """What comes of a plan of the hand and of the other hand's values, in their order."""
    entries = {variable: (rules, otherwise) for variable, rules, otherwise in plan}
    filling = []
    behind = list(others)
    for variable in range(1, len(sentence[0]) + 1):
        if plain_hand(sentence, variable) != hand:
            filling.append(behind.pop(0))
            continue
        rules, otherwise = entries[variable]
        values = [value for literals, value in rules if all(filling[abs(x) - 1] is (x > 0) for x in literals)]
        filling.append((values + [otherwise])[0])
    return filling


def plan_wins(sentence, hand, plan):
    """Whether the plan wins for the hand, whatever the other one fills in."""
    fillings = [
        plain_filling(sentence, hand, plan, others)
        for others in all_fillings(len(plain_variables(sentence, other_of(hand))))
    ]
    return all(plainly_true(sentence, filling) is (hand == "wisher") for filling in fillings)


def plain_sets(sentence, paper):
    """What the lines of a paper come to, None for a bad one and for those that name one."""
    sets = []
    for line in paper[1]:
        sets.append(plain_line_set(sentence, paper[0], line, sets))
    return sets


def drawn_plan(draw, sentence, hand):
    """A plan of the hand, by chance with no rule, with rules that never stand together, or with some that do."""
    return [
        (
            variable,
            [
                (drawn_set(draw, variable - 1) if variable > 1 else (), draw.choice((False, True)))
                for k in range(draw.randint(0, 4))
            ],
            draw.choice((False, True)),
        )
        for variable in plain_variables(sentence, hand)
    ]


def drawn_line(draw, sentence, sets):
    """A line that may well be bad."""
    count = len(sentence[0])
    word = draw.choice(("given", "hits", "join", "drop"))
    if word == "given":
        return (word, draw.randint(0, len(sentence[1])))
    if word == "hits":
        return (word, tuple(draw.choice((variable, -variable)) for variable in range(1, count + 1)))
    if word == "join":
        return (word, draw.randint(0, len(sets)), draw.randint(0, len(sets)), draw.randint(1, max(1, count)))
    return (word, draw.randint(0, len(sets)))


def spoilers_paper(draw, sentence):
    """A paper of the spoiler's of which no line is bad, whoever wins, and the sets of its lines."""
    lines, sets = [], []
    for count in range(30):
        line = drawn_line(draw, sentence, sets)
        literals = plain_line_set(sentence, "spoiler", line, sets)
        if literals is not None:
            lines.append(line)
            sets.append(literals)
    return ("spoiler", lines), sets


def padded_paper(draw, sentence):
    """A whole paper of the hand that wins, with lines between that are not needed, or that are alike."""
    hand, plain_lines = whole_paper(sentence)
    lines, sets, numbers = [], [], []

    def put_some():
        for line in [drawn_line(draw, sentence, sets) for k in range(draw.randint(0, 6))]:
            literals = plain_line_set(sentence, hand, line, sets)
            if literals is not None:
                lines.append(line)
                sets.append(literals)

    def alike(number):
        return draw.choice([k for k, literals in enumerate(sets) if literals == sets[numbers[number]]])

    for line in plain_lines:
        put_some()
        if line[0] == "join":
            line = ("join", alike(line[1]), alike(line[2]), line[3])
        elif line[0] == "drop":
            line = ("drop", alike(line[1]))
        numbers.append(len(lines))
        lines.append(line)
        sets.append(plain_line_set(sentence, hand, line, sets))
    put_some()
    if sets[-1] != ():
        lines.append(("drop", alike(-1)))
    return (hand, lines)


def plain_smaller(sentence, step):
    """The clauses behind a step of one of the five words and of whole numbers, or None where it is no step."""
    clauses = sentence[1]
    wishers = plain_variables(sentence, "wisher")
    places = dict(enumerate(clauses))
    if step[0] == "pure":
        literal = step[1]
        standing = {other for clause in clauses for other in clause}
        if literal not in standing or -literal in standing:
            return None
        if abs(literal) in wishers:
            return [clause for clause in clauses if literal not in clause]
        return [tuple(other for other in clause if other != literal) for clause in clauses]
    if step[1] not in places:
        return None
    clause = places[step[1]]
    if step[0] == "drop":
        return [plain_drop(sentence, "spoiler", clause) if k == step[1] else places[k] for k in places]
    if step[0] == "unit":
        if len(clause) != 1 or abs(clause[0]) not in wishers:
            return None
        return [tuple(x for x in other if x != -clause[0]) for other in clauses if clause[0] not in other]
    left = [places[k] for k in places if k != step[1]]
    if step[0] == "within":
        another = step[2] in places and step[2] != step[1]
        return left if another and set(places[step[2]]) <= set(clause) else None
    literal = step[2]
    if literal not in clause or abs(literal) not in wishers:
        return None
    opposed = [other for other in clauses if -literal in other]
    blocked = all(any(abs(x) < abs(literal) and -x in clause for x in other) for other in opposed)
    return left if blocked else None


def tried_steps(sentence):
    """Tuples of the five words, with places and literals somewhat further out than there are any."""
    places = range(-2, len(sentence[1]) + 2)
    literals = range(-len(sentence[0]) - 1, len(sentence[0]) + 2)
    return (
        [(word, k) for word in ("drop", "unit") for k in places]
        + [("pure", literal) for literal in literals]
        + [("within", k, j) for k in places for j in places]
        + [("blocked", k, literal) for k in places for literal in literals]
    )


def all_steps(sentence):
    return [step for step in tried_steps(sentence) if plain_smaller(sentence, step) is not None]


def size_of(clauses):
    """How many clauses there are, and how many literals in them."""
    return (len(clauses), sum(len(clause) for clause in clauses))


def drawn_node(draw, place, most):
    words = ["yes", "no"] + ["in"] * 3 * (most > 0)
    words += ["not", "not", "and", "and", "and", "or", "or", "or"] * (place > 0)
    word = draw.choice(words)
    if word in ("yes", "no"):
        return (word,)
    if word == "in":
        return (word, draw.randint(1, most))
    return (word,) + tuple(draw.randrange(place) for k in range(1 if word == "not" else 2))


def drawn_form(draw, most, many):
    """A form of so many nodes over the variables from 1 to most."""
    return [drawn_node(draw, place, most) for place in range(many)]


def drawn_forms(seed, many, counts, most_nodes):
    """Turns of one of these counts, each with a form over their variables."""
    draw = random.Random(seed)
    for number in range(many):
        turns = "".join(draw.choice("ws") for k in range(draw.choice(counts)))
        yield turns, drawn_form(draw, len(turns), draw.randint(1, most_nodes))


def dense_form(draw, most, many):
    """A form of so many nodes whose end hangs on many of those ahead."""
    nodes = [("in", v) for v in range(1, most + 1)]
    for place in range(most, many):
        word = draw.choice(("not", "and", "or"))
        nodes.append((word, place - 1) if word == "not" else (word, place - 1, draw.randrange(place)))
    return nodes[:many]


def plain_form_true(nodes, filling):
    values = []
    for word, *named in nodes:
        parts = [filling[k - 1] if word == "in" else values[k] for k in named]
        values.append({
            "yes": True, "no": False, "in": parts == [True], "not": parts == [False], "and": False not in parts,
            "or": True in parts,
        }[word])
    return values[-1]


def sentence_form(sentence):
    """The sentence as a form over its variables."""
    nodes = [("yes",), ("no",)]
    whole = 0
    for clause in sentence[1]:
        some = 1
        for literal in clause:
            nodes.append(("in", abs(literal)))
            if literal < 0:
                nodes.append(("not", len(nodes) - 1))
            nodes.append(("or", some, len(nodes) - 1))
            some = len(nodes) - 1
        nodes.append(("and", whole, some))
        whole = len(nodes) - 1
    return nodes + [("and", whole, whole)]


def plain_form_winner(turns, nodes, begun):
    """Who wins where the wisher wants the form to come true, by every whole filling behind what is begun."""
    if len(begun) == len(turns):
        return "wisher" if plain_form_true(nodes, begun) else "spoiler"
    hand = plain_hand((turns, []), len(begun) + 1)
    winners = [plain_form_winner(turns, nodes, begun + [value]) for value in (True, False)]
    return hand if hand in winners else other_of(hand)


def drawn_game(draw, bits, count, most_nodes):
    """A game of so many bits, and of so many choices a round."""
    turns = "".join(draw.choice("ws") for k in range(count))
    nexts = [drawn_form(draw, bits + count, draw.randint(1, most_nodes)) for k in range(bits)]
    first = [draw.choice((False, True)) for k in range(bits)]
    return (bits, first, turns, nexts, drawn_form(draw, bits, draw.randint(1, most_nodes)))


def plain_last_state(game, choices):
    """The state behind the rounds whose choices are given one behind the other."""
    state, count = game[1], len(game[2])
    for begin in range(0, len(choices), count):
        state = [plain_form_true(form, state + choices[begin:begin + count]) for form in game[3]]
    return state
