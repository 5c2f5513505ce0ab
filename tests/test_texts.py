"""Point 32: sentences and papers written down, and read again."""

import copy
import random
import re
import unittest

from oathduel.errors import NoText
from oathduel.papers import is_whole
from oathduel.sentences import is_sentence
from oathduel.shapes import clauses_of
from oathduel.texts import read_paper, read_sentence, shown_paper, shown_sentence
from oathduel.walks import winner_of
from tests.samples import (
    MANY_FIGURES, dense_form, drawn_line, drawn_sentences, small_sentences, whole_paper,
)

SENTENCES = (
    (("", []), "-"),
    (("", [()]), "-\n0"),
    (("", [(), ()]), "-\n0\n0"),
    (("w", []), "w"),
    (("s", [()]), "s\n0"),
    (("w", [(1,)]), "w\n1 0"),
    (("s", [(-1,), (1,)]), "s\n-1 0\n1 0"),
    (("wsw", [(1, -3), (), (-1, 2, 3), (2,)]), "wsw\n1 -3 0\n0\n-1 2 3 0\n2 0"),
    (("w" * 10 + "s" * 10, [(10, -20), (-9, 11), (1, 19)]), "wwwwwwwwwwssssssssss\n10 -20 0\n-9 11 0\n1 19 0"),
)

PAPERS = (
    (("wisher", []), "wisher"),
    (("spoiler", []), "spoiler"),
    (("spoiler", [("given", 0)]), "spoiler\ngiven 0"),
    (("spoiler", [("given", 12), ("drop", 0), ("join", 1, 0, 3)]), "spoiler\ngiven 12\ndrop 0\njoin 1 0 3"),
    (("wisher", [("hits", ())]), "wisher\nhits"),
    (("wisher", [("hits", (1,)), ("hits", (-1, 2, -10))]), "wisher\nhits 1\nhits -1 2 -10"),
    (("wisher", [("hits", ()), ("drop", 100), ("join", 0, 0, 1), ("hits", (-7,))]),
     "wisher\nhits\ndrop 100\njoin 0 0 1\nhits -7"),
    (("spoiler", [("join", 10, 20, 40), ("join", 0, 1999, 999999999)]),
     "spoiler\njoin 10 20 40\njoin 0 1999 999999999"),
)


class ShownTest(unittest.TestCase):
    def test_sentences_to_the_sign(self):
        for sentence, text in SENTENCES:
            ahead = copy.deepcopy(sentence)
            self.assertEqual(shown_sentence(sentence), text)
            self.assertEqual(sentence, ahead)

    def test_papers_to_the_sign(self):
        for paper, text in PAPERS:
            ahead = copy.deepcopy(paper)
            self.assertEqual(shown_paper(paper), text)
            self.assertEqual(paper, ahead)

    def test_rows_against_the_words(self):
        for sentence in small_sentences()[::3]:
            rows = shown_sentence(sentence).split("\n")
            self.assertEqual(rows[0], sentence[0] or "-")
            self.assertEqual(rows[1:], ["".join(f"{literal} " for literal in clause) + "0" for clause in sentence[1]])


class ReadTest(unittest.TestCase):
    def test_sentences(self):
        for sentence, text in SENTENCES:
            told = read_sentence(text)
            self.assertEqual(told, sentence)
            self.assertEqual((type(told), type(told[1])), (tuple, list))
            self.assertIs(is_sentence(told), True)

    def test_papers(self):
        for paper, text in PAPERS:
            told = read_paper(text)
            self.assertEqual(told, paper)
            self.assertEqual((type(told), type(told[1])), (tuple, list))
            for line in told[1]:
                self.assertIs(type(line), tuple)
                numbers = line[1] if line[0] == "hits" else line[1:]
                self.assertEqual([type(part) for part in (numbers,) + numbers], [tuple] + [int] * len(numbers))

    def test_what_is_shown_is_read_again(self):
        for sentence in small_sentences() + drawn_sentences(90, 5, (40,), 200):
            self.assertEqual(read_sentence(shown_sentence(sentence)), sentence)

    def test_whole_papers_are_read_again(self):
        for sentence in small_sentences()[::2] + drawn_sentences(91, 10, (6, 7), 12):
            paper = whole_paper(sentence)
            told = read_paper(shown_paper(paper))
            self.assertEqual(told, paper)
            self.assertIs(is_whole(read_sentence(shown_sentence(sentence)), told), True)

    def test_papers_with_bad_lines_are_read_again(self):
        draw = random.Random(92)
        for sentence in drawn_sentences(93, 40, (3, 12), 6):
            for hand, word in (("wisher", "given"), ("spoiler", "hits")):
                drawn = [drawn_line(draw, sentence, [()] * 20) for k in range(20)]
                paper = (hand, [line for line in drawn if line[0] != word])
                self.assertEqual(read_paper(shown_paper(paper)), paper)

    def test_lines_that_name_what_is_not_there(self):
        # Nothing is known of the sentence or the lines ahead: places from nought on, v from 1 on, any set.
        for hand in ("wisher", "spoiler"):
            for text, line in (("drop 0", ("drop", 0)), ("join 5 5 1", ("join", 5, 5, 1)),
                               ("join 0 999999999 999999999", ("join", 0, 999999999, 999999999))):
                self.assertEqual(read_paper(f"{hand}\n{text}"), (hand, [line]))
        literals = (999999998, -999999999)
        self.assertEqual(read_paper("wisher\nhits 999999998 -999999999"), ("wisher", [("hits", literals)]))
        self.assertEqual(read_paper("spoiler\ngiven 999999999"), ("spoiler", [("given", 999999999)]))

    def test_the_same_hand_wins_what_is_read(self):
        for sentence in small_sentences()[::3]:
            self.assertEqual(winner_of(read_sentence(shown_sentence(sentence))), winner_of(sentence))

    def test_long_texts(self):
        for turns in ("w" * 20000, "ws" * 10000):
            self.assertEqual(read_sentence(turns), (turns, []))
        text = "-" + "\n0" * 9999
        self.assertEqual(read_sentence(text), ("", [()] * 9999))
        sentence = clauses_of("wsws", dense_form(random.Random(94), 4, 300))
        self.assertTrue(read_sentence(shown_sentence(sentence)) == sentence)
        paper = ("wisher", [("hits", tuple(range(1, 41)))] * 100 + [("drop", k) for k in range(100)])
        self.assertTrue(read_paper(shown_paper(paper)) == paper)

    def test_changing_what_is_told_changes_nothing_told_later(self):
        for reader, text in ((read_sentence, "ws\n1 2 0\n0"), (read_paper, "wisher\nhits 1\ndrop 0")):
            told = reader(text)
            ahead = copy.deepcopy(told)
            told[1].append(None)
            told[1].reverse()
            self.assertEqual(reader(text), ahead)


def papers_with(number):
    """A paper for each place in a line at which a number may stand."""
    both = (f"drop {number}", f"join {number} 0 1", f"join 0 {number} 1", f"join 0 0 {number}")
    wishers = both + (f"hits {number}", f"hits -{number}", f"hits\nhits {number}\nhits")
    spoilers = both + (f"given {number}", f"given 0\ngiven {number}\ndrop 0")
    return [f"wisher\n{lines}" for lines in wishers] + [f"spoiler\n{lines}" for lines in spoilers]


class NoTextTest(unittest.TestCase):
    def assert_no_sentence(self, text):
        with self.assertRaises(NoText) as taken:
            read_sentence(text)
        self.assertIs(type(taken.exception), NoText)

    def assert_no_paper(self, text):
        with self.assertRaises(NoText) as taken:
            read_paper(text)
        self.assertIs(type(taken.exception), NoText)

    def test_the_empty_text_and_line_ends_alone(self):
        for text in ("", "\n", "\n\n", " ", "\n0", "\n1 0", " \n0", "0", "0\n0", "\nw", "\nwisher", "-\n", "w\n"):
            self.assert_no_sentence(text)
        for text in ("", "\n", "\n\n", " ", "\ndrop 0", "\nwisher", "-", "0", "w", "drop 0", "hits"):
            self.assert_no_paper(text)

    def test_blanks_and_line_ends_too_many(self):
        for text in ("w\n1 0\n", "\nw\n1 0", "w\n\n1 0", "w\n1 0\n\n1 0", "w \n1 0", " w\n1 0", "w\n 1 0",
                     "w\n1 0 ", "w\n1  0", "w\n0 ", "w\n 0", "-\n0\n", "- ", " -", "w\n", "w\n ", "w\n1\n0",
                     "w\n1 0\r", "w\r\n1 0", "w\n1\t0", "w s\n1 0", "w\n- 1 0"):
            self.assert_no_sentence(text)
        for text in ("wisher\n", "wisher ", " wisher", "wisher\n\nhits", "wisher\nhits\n", "wisher\nhits ",
                     "wisher\n hits", "wisher\nhits  1", "wisher\nhits 1 ", "wisher\nhits 1  2", "wisher\ndrop  0",
                     "wisher\ndrop 0 ", "wisher\ndrop\n0", "\nwisher", "wisher\n ", "wisher\njoin 0 0  1",
                     "wisher\r\ndrop 0", "wisher\ndrop\t0", "wisher\nhits - 1"):
            self.assert_no_paper(text)

    def test_needless_noughts(self):
        for text in ("w\n01 0", "w\n1 00", "w\n-01 0", "w\n1 -0", "w\n00", "w\n-0", "w\n1 000", "w\n0 0", "w\n1 0 0",
                     "w\n0 1 0", "w\n0 1", "-\n0 0"):
            self.assert_no_sentence(text)
        for line in ("given 00", "given 01", "given -0", "drop 00", "drop 007", "drop -0", "join 00 0 1", "join 0 00 1",
                     "join 0 0 01", "join -0 0 1", "join 0 0 -0"):
            self.assert_no_paper("spoiler\n" + line)
        for line in ("hits 01", "hits -01", "hits 1 02", "hits 00", "hits 0", "hits -0", "hits 0 1", "hits 1 0"):
            self.assert_no_paper("wisher\n" + line)

    def test_signs_in_the_wrong_place(self):
        for text in ("w\n+1 0", "w\n1- 0", "w\n--1 0", "w\n1 +0", "w\n-1- 0", "w\n1-1 0", "w\n1.0 0", "w\n1_0 0",
                     "w\n1,0", "w\n1 0;", "w\n# 0", "w\n(1) 0", "w\nx 0", "w\nw 0", "w\n- 0", "w\n-", "--", "-w",
                     "w-", "+", "w0",
                     "W", "S", "ws1", "w,s", "x", "wsx", "wisher", "1 0", "~", "!w", "w\n1e0 0", "w\n0x1 0", "w\n1 O"):
            self.assert_no_sentence(text)
        for line in ("drop +0", "drop -1", "drop --1", "drop 1-", "drop x", "drop -", "drop 1.", "drop 1_0", "drop 0x1",
                     "drop 1e1", "join -1 0 1", "join 0 -1 1", "join 0 0 -1", "join 0 0 0", "join +0 0 1",
                     "join 0 0 +1",
                     "join 0, 0, 1", "drop (0)", "drop 0;", "drop0", "drop-0", "drop,0"):
            for hand in ("wisher", "spoiler"):
                self.assert_no_paper(f"{hand}\n{line}")
        for line in ("given -1", "given +1", "given x", "given 1-", "given", "given 1 2", "given1"):
            self.assert_no_paper("spoiler\n" + line)
        for line in ("hits +1", "hits 1-", "hits --1", "hits -", "hits x", "hits 1,2", "hits (1)", "hits1", "hits-1"):
            self.assert_no_paper("wisher\n" + line)

    def test_sentences_that_are_none(self):
        for text in ("-\n1 0", "w\n2 0", "w\n-2 0", "w\n1 2 0", "ws\n2 1 0", "ws\n1 1 0", "ws\n1 -1 0", "ws\n-2 1 0",
                     "ws\n1 2 3 0", "ws\n1 2 0\n3 0", "w\n999999999 0", "w\n-999999999 0", "wws\n1 3 2 0",
                     "w\n" + str(MANY_FIGURES) + " 0"):
            self.assert_no_sentence(text)

    def test_a_clause_without_its_nought(self):
        for text in ("w\n1", "ws\n1 2", "ws\n1 2 0\n1", "ws\n1\n2 0", "ws\n-1 -2", "w\n1 1"):
            self.assert_no_sentence(text)

    def test_hands_that_are_none(self):
        for hand in ("Wisher", "WISHER", "wishe", "wishers", "spoil", "Spoiler", "spoiler:", "hand", "wisher spoiler",
                     "wisherspoiler", "w", "s", "-", "0", "given"):
            for rest in ("", "\ndrop 0", "\nhits 1", "\ngiven 0"):
                self.assert_no_paper(hand + rest)
        self.assert_no_paper("wisher\nspoiler")
        self.assert_no_paper("wisher\nhits\nwisher")

    def test_words_that_are_none(self):
        for line in ("", "Drop 0", "DROP 0", "dro 0", "drops 0", "0", "0 drop", "drop", "join", "join 0", "join 0 0",
                     "join 0 0 1 1", "drop 0 0", "unit 0", "pure 1", "within 0 0", "hit 1", "Hits 1", "give 0",
                     "joins 0 0 1"):
            for hand in ("wisher", "spoiler"):
                self.assert_no_paper(f"{hand}\n{line}")
                self.assert_no_paper(f"{hand}\ndrop 0\n{line}\ndrop 0")

    def test_lines_of_the_other_hands_forms(self):
        for line in ("given 0", "given 5"):
            self.assertEqual(len(read_paper("spoiler\n" + line)[1]), 1)
            self.assert_no_paper("wisher\n" + line)
        for line in ("hits", "hits 1", "hits 1 -2"):
            self.assertEqual(len(read_paper("wisher\n" + line)[1]), 1)
            self.assert_no_paper("spoiler\n" + line)

    def test_literals_that_are_no_set(self):
        for line in ("hits 1 1", "hits 1 -1", "hits 2 1", "hits -2 -1", "hits 1 3 2", "hits 1 2 -2"):
            self.assert_no_paper("wisher\n" + line)

    def test_a_sentence_is_no_paper_and_a_paper_no_sentence(self):
        for sentence, text in SENTENCES:
            self.assert_no_paper(text)
        for paper, text in PAPERS:
            self.assert_no_sentence(text)

    def test_numbers_of_ten_figures_and_more(self):
        for number in (1, 10 ** 8, 10 ** 9 - 1):
            for text in papers_with(number):
                self.assertEqual(shown_paper(read_paper(text)), text)
        for number in (10 ** 9, 10 ** 10 - 1, 10 ** 10, 10 ** 18, 10 ** 19, MANY_FIGURES):
            for text in papers_with(number):
                self.assert_no_paper(text)
            self.assert_no_sentence(f"w\n{number} 0")
            self.assert_no_sentence(f"w\n1 -{number} 0")

    def test_the_sign_ahead_is_no_figure(self):
        self.assertEqual(read_paper("wisher\nhits -123456789"), ("wisher", [("hits", (-123456789,))]))
        for line in ("hits -1234567890", "hits -1000000000", "hits 1 -9999999999"):
            self.assert_no_paper("wisher\n" + line)

    def test_nine_figures_in_each_of_many_numbers(self):
        literals = tuple([(-1) ** k * (10 ** 8 + k) for k in range(500)])
        paper = ("wisher", [("hits", literals), ("join", 123456789, 987654321, 999999999), ("drop", 10 ** 9 - 1)])
        self.assertEqual(read_paper(shown_paper(paper)), paper)
        paper[1][0] = ("hits", literals + (10 ** 9,))
        self.assert_no_paper(shown_paper(paper))

    def test_numbers_far_too_long(self):
        self.assert_no_sentence("w\n" + "1" * 19000 + " 0")
        self.assert_no_sentence("w\n-" + "9" * 19000 + " 0")
        self.assert_no_paper("wisher\nhits 1" + "0" * 19000 + " 1")
        self.assert_no_paper("wisher\ndrop -" + "9" * 19000)
        self.assert_no_paper("wisher\ndrop " + "9" * 19000)
        self.assert_no_paper("spoiler\ngiven 1" + "0" * 19000)


SIGNS = "\n 0123456789-wsdropjinghtvel+~!"


def changed_texts(text, signs):
    """The text with one sign more, one fewer and one exchanged, at every place."""
    for place in range(len(text) + 1):
        for sign in signs:
            yield text[:place] + sign + text[place:]
            yield text[:place] + sign + text[place + 1:]
        yield text[:place] + text[place + 1:]
    for place in range(len(text) - 1):
        yield text[:place] + text[place + 1] + text[place] + text[place + 2:]


class ChangedTextsTest(unittest.TestCase):
    def assert_read_or_refused(self, reader, shower, text):
        """There is one way alone to write something down: so what is read at all is shown again as it was written."""
        try:
            told = reader(text)
        except NoText:
            return 0
        self.assertEqual(shower(told), text)
        return 1

    def test_one_sign_more_fewer_or_exchanged(self):
        for known, reader, shower in ((SENTENCES, read_sentence, shown_sentence), (PAPERS, read_paper, shown_paper)):
            read = [
                self.assert_read_or_refused(reader, shower, changed)
                for thing, text in known for changed in changed_texts(text, SIGNS)
            ]
            self.assertGreater(sum(read), 100)
            self.assertGreater(len(read) - sum(read), 5000)

    def test_what_may_be_read_and_what_not_against_a_pattern(self):
        literal = "-?[1-9][0-9]{0,8}"
        sentence = re.compile(rf"(-|[ws]+)(\n(({literal} )*)0)*")
        place = "(0|[1-9][0-9]{0,8})"
        lines = rf"drop {place}|join {place} {place} [1-9][0-9]{{0,8}}"
        wishers = re.compile(rf"wisher(\n({lines}|hits( {literal})*))*")
        spoilers = re.compile(rf"spoiler(\n({lines}|given {place}))*")
        for thing, text in SENTENCES:
            for changed in changed_texts(text, SIGNS):
                if sentence.fullmatch(changed) is None:
                    self.assert_read_no(read_sentence, changed)
        for thing, text in PAPERS:
            for changed in changed_texts(text, SIGNS):
                if wishers.fullmatch(changed) is None and spoilers.fullmatch(changed) is None:
                    self.assert_read_no(read_paper, changed)
                elif "hits" not in changed:
                    self.assertEqual(shown_paper(read_paper(changed)), changed)

    def assert_read_no(self, reader, text):
        with self.assertRaises(NoText):
            reader(text)


if __name__ == "__main__":
    unittest.main()
