"""Sentences and papers written down as rows of a text, and read again."""

from oathduel.errors import NoText
from oathduel.parts import begins_with
from oathduel.sentences import SPOILER, WISHER, is_sentence, is_set

FIGURES = "0123456789"
MOST_FIGURES = 9
NO_TURNS = "-"


def shown_row(parts):
    return " ".join([str(part) for part in parts])


def shown_sentence(sentence):
    rows = [sentence[0] if sentence[0] else NO_TURNS]
    rows.extend([shown_row(clause + (0,)) for clause in sentence[1]])
    return "\n".join(rows)


def shown_line(line):
    if line[0] == "hits":
        return shown_row((line[0],) + line[1])
    return shown_row(line)


def shown_paper(paper):
    return "\n".join([paper[0]] + [shown_line(line) for line in paper[1]])


def read_number(piece):
    figures = piece[1:] if piece.startswith("-") else piece
    if not figures or any([sign not in FIGURES for sign in figures]):
        raise NoText("a number is made of figures")
    if len(figures) > MOST_FIGURES:
        raise NoText("a number has at most nine figures")
    if figures[0] == "0" and piece != "0":
        raise NoText("a number has no needless noughts")
    return int(piece)


def read_numbers(pieces):
    return [read_number(piece) for piece in pieces]


def read_clause(row):
    numbers = read_numbers(row.split(" "))
    if numbers[-1] != 0:
        raise NoText("a clause has 0 behind its literals")
    return tuple(numbers[:-1])


def read_turns(row):
    if not row:
        raise NoText("where there are no turns, the row is not empty")
    return "" if row == NO_TURNS else row


def read_sentence(text):
    rows = text.split("\n")
    sentence = (read_turns(rows[0]), [read_clause(row) for row in rows[1:]])
    if not is_sentence(sentence):
        raise NoText("the sentence is none")
    return sentence


def is_line(line, hand):
    if line[0] == "hits":
        return hand == WISHER and is_set(line[1], max([abs(literal) for literal in line[1]], default=0))
    if begins_with(line, "join", 4):
        return line[1] >= 0 and line[2] >= 0 and line[3] >= 1
    if begins_with(line, "given", 2):
        return hand == SPOILER and line[1] >= 0
    return begins_with(line, "drop", 2) and line[1] >= 0


def read_line(row, hand):
    pieces = row.split(" ")
    numbers = read_numbers(pieces[1:])
    line = (pieces[0], tuple(numbers)) if pieces[0] == "hits" else tuple([pieces[0]] + numbers)
    if not is_line(line, hand):
        raise NoText("a line is of none of its hand's forms")
    return line


def read_paper(text):
    rows = text.split("\n")
    if rows[0] not in (WISHER, SPOILER):
        raise NoText("the first row tells no hand")
    return (rows[0], [read_line(row, rows[0]) for row in rows[1:]])
