"""What several tests need: sentences to try, things that are none, and a plain walk to check against."""

import itertools
import random

MANY_FIGURES = 10 ** 59 + 7
TOO_MANY_TO_WRITE = 10 ** 5000


def all_sets(most):
    """Every set of variables from 1 to most."""
    choices = itertools.product((0, 1, -1), repeat=most)
    return [tuple(sign * (k + 1) for k, sign in enumerate(signs) if sign) for signs in choices]


def all_turns(count):
    return ["".join(signs) for signs in itertools.product("ws", repeat=count)]


def all_fillings(count):
    return [list(values) for values in itertools.product((False, True), repeat=count)]


def all_begun(count):
    """Every begun filling of so many variables, the empty one and the whole ones among them."""
    return [begun for length in range(count + 1) for begun in all_fillings(length)]


def tiny_sentences():
    """Every sentence of at most two variables and two clauses."""
    return [
        (turns, list(clauses))
        for count in range(3)
        for turns in all_turns(count)
        for length in range(3)
        for clauses in itertools.product(all_sets(count), repeat=length)
    ]


def drawn_set(draw, count):
    return tuple(
        variable * draw.choice((1, -1))
        for variable in sorted(draw.sample(range(1, count + 1), draw.randint(1, min(3, count))))
    )


def drawn_sentence(draw, count, most_clauses):
    turns = "".join(draw.choice("ws") for k in range(count))
    return (turns, [drawn_set(draw, count) for k in range(draw.randint(0, most_clauses))])


def drawn_sentences(seed, many, counts, most_clauses):
    """The same drawing every time, as the seed is written down."""
    draw = random.Random(seed)
    return [drawn_sentence(draw, draw.choice(counts), most_clauses) for k in range(many)]


def small_sentences():
    return tiny_sentences() + drawn_sentences(1107, 400, (3, 4, 5), 9)


def plainly_true(sentence, filling):
    return all(any(filling[abs(literal) - 1] is (literal > 0) for literal in clause) for clause in sentence[1])


def plain_hand(sentence, variable):
    return {"w": "wisher", "s": "spoiler"}[sentence[0][variable - 1]]


def plain_winner(sentence, begun):
    """Who wins, by every whole filling behind what is begun and nothing cleverer."""
    if len(begun) == len(sentence[0]):
        return "wisher" if plainly_true(sentence, begun) else "spoiler"
    hand = plain_hand(sentence, len(begun) + 1)
    winners = [plain_winner(sentence, begun + [value]) for value in (True, False)]
    if hand in winners:
        return hand
    return "spoiler" if hand == "wisher" else "wisher"


def plain_choices(sentence, begun):
    hand = plain_hand(sentence, len(begun) + 1)
    return [value for value in (False, True) if plain_winner(sentence, begun + [value]) == hand]
