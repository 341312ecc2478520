"""[8]: each way in which a row is wrong, and the first wrong row."""

import unittest
from itertools import product

from owedanswers.errors import BadFunction
from owedanswers.functions import Function

NO_ROWS = ["", " ", "   ", "asks", "Ask", "ASK", "ask x", "ask ask", "read 1", "each", "each abcd", "each A", "each a1",
           "each a b", "each 1", "each r1", "each a_", "eacha", "Each a", "maybe a", "try x", "shield 1", "retry",
           "retry 0", "retry 4", "retry 12", "retry 01", "retry +1", "retry -1", "retry 1 1", "retry a", "retry1",
           "else if", "end each", "end 1", "finally x", "rescue x", "return 1", "close 0", "drain a", "\task", "ask\t",
           "each\ta", "ask\r", "wait", "while", "catch", "#", "# ask", ";", "ask;", "1", "0", "each a:", "begin finish"]
# Each way to stand in a block, and the rows that lead there.
PLACES = {"each": ["each a"], "maybe": ["maybe"], "else": ["maybe", "else"], "try": ["try"],
          "finally": ["try", "finally"], "rescue": ["try", "rescue"], "shield": ["shield"], "retry": ["retry 1"]}
OPENERS = ("each", "maybe", "try", "shield", "retry")
ROWS = ["ask", "begin", "finish", "read", "head", "body", "pause", "check", "drain", "close", "return",
        "each b", "maybe", "try", "shield", "retry 2", "else", "finally", "rescue", "end"]


def may_stand(row, places):
    """Whether a row may stand in these places, from the outermost inwards, sentence by sentence of [8]."""
    inner = places[-1] if places else ""
    word = row.split(" ")[0]
    if row in ("else", "finally", "rescue"):
        return inner == {"else": "maybe", "finally": "try", "rescue": "try"}[row]
    if row == "end":
        return inner not in ("", "try")
    if row == "return":
        return not {"finally", "rescue"} & set(places)
    if word in OPENERS:
        return (len(places) < 5 and not (word == "each" and "each" in places)
                and not (word == "retry" and sum(place == "retry" for place in places) > 1))
    if row not in ("drain", "close") or "each" not in places:
        return True
    around = places.index("each")
    for at in range(around + 1, len(places)):
        if places[at] == "rescue" and (row == "drain" or "retry" not in places[around:at]):
            return True
    return False


class WrongRowsTest(unittest.TestCase):

    def assert_bad(self, at, *rows):
        with self.assertRaises(BadFunction) as caught:
            Function("\n".join(rows))
        self.assertEqual(caught.exception.row, at, rows)

    def assert_good(self, *rows):
        self.assertEqual(Function("\n".join(rows)).rows, rows)

    def test_none_of_the_rows(self):
        for row in NO_ROWS:
            self.assert_bad(0, row)
            self.assert_bad(1, "ask", row)
            self.assert_bad(1, "ask", row, "read")
            self.assert_bad(2, "maybe", "ask", row, "end")

    def test_no_words_at_the_end(self):
        self.assert_bad(0, "")
        self.assert_bad(1, "ask", "")
        self.assert_bad(1, "ask", "  ")
        self.assert_bad(0, "", "ask")
        self.assert_bad(1, "each a", "", "end")
        self.assert_bad(2, "each a", "end", "")

    def test_the_first_wrong_row(self):
        self.assert_bad(1, "ask", "asks", "", "end")
        self.assert_bad(0, "end", "asks")
        self.assert_bad(2, "each a", "ask", "each b", "drain")
        self.assert_bad(1, "maybe", "asks")
        self.assert_bad(2, "try", "ask", "end", "asks")

    def test_words_without_their_block(self):
        for row in ("else", "finally", "rescue", "end"):
            self.assert_bad(0, row)
            self.assert_bad(1, "ask", row)
            self.assert_bad(2, "shield", "end", row)
        self.assert_bad(2, "maybe", "end", "else")
        self.assert_bad(3, "try", "finally", "end", "rescue")

    def test_else(self):
        self.assert_good("maybe", "else", "end")
        self.assert_bad(2, "maybe", "else", "else", "end")
        self.assert_bad(4, "maybe", "ask", "else", "ask", "else", "end")
        for opener in ("try", "shield", "each a", "retry 1"):
            self.assert_bad(1, opener, "else")
            self.assert_bad(2, "maybe", opener, "else")
        self.assert_bad(2, "try", "finally", "else")
        self.assert_good("maybe", "maybe", "else", "end", "else", "end")

    def test_finally_and_rescue(self):
        for word, other in product(("finally", "rescue"), repeat=2):
            self.assert_good("try", word, "end")
            self.assert_bad(2, "try", word, other, "end")
            self.assert_bad(3, "try", word, "ask", other, "end")
        for opener, word in product(("maybe", "shield", "each a", "retry 1"), ("finally", "rescue")):
            self.assert_bad(1, opener, word)
            self.assert_bad(2, "try", opener, word)
        self.assert_bad(2, "maybe", "else", "finally")

    def test_end_of_a_try(self):
        self.assert_bad(1, "try", "end")
        self.assert_bad(2, "try", "ask", "end")
        self.assert_bad(3, "maybe", "try", "ask", "end", "end")
        self.assert_bad(4, "try", "maybe", "else", "end", "end")

    def test_each_inside_each(self):
        self.assert_bad(1, "each a", "each b", "end", "end")
        self.assert_bad(1, "each a", "each a", "end", "end")
        for place in PLACES:
            if place != "each":
                self.assert_bad(1 + len(PLACES[place]), "each a", *PLACES[place], "each b", "end", "end", "end")
        self.assert_good("each a", "end", "each a", "end", "each b", "end")

    def test_return_inside_a_second_part(self):
        for word in ("finally", "rescue"):
            self.assert_bad(2, "try", word, "return", "end")
            self.assert_bad(3, "try", word, "maybe", "return", "end", "end")
            self.assert_bad(3, "try", word, "try", "return", "finally", "end", "end")
            self.assert_bad(4, "try", word, "shield", "maybe", "return", "end", "end", "end")
            self.assert_good("try", "return", word, "end", "return")
            self.assert_good("each a", "retry 1", "maybe", "return", "else", "return", "end", "end", "end")

    def test_retry_inside_two_others(self):
        self.assert_good("retry 1", "retry 2", "end", "retry 3", "end", "end", "retry 1", "end")
        self.assert_bad(2, "retry 1", "retry 2", "retry 3", "end", "end", "end")
        self.assert_bad(4, "retry 1", "maybe", "retry 2", "shield", "retry 1", "end")
        self.assert_bad(4, "retry 1", "try", "rescue", "retry 2", "retry 1", "end")

    def test_blocks_inside_five_others(self):
        openers = ("maybe", "try", "shield", "retry 1", "each a")
        for last in openers:
            rest = ["finally"] if last == "try" else []
            self.assert_good(*["maybe"] * 4, last, *rest, *["end"] * 5)
            self.assert_bad(5, *["maybe"] * 5, last, *rest, *["end"] * 6)
        self.assert_good(*["shield"] * 5, "ask", *["end"] * 5)
        self.assert_good(*["shield"] * 5, *["end"] * 5, *["shield"] * 5, *["end"] * 5)
        self.assert_bad(6, *["maybe"] * 5, "else", "maybe", "end", *["end"] * 5)
        self.assert_bad(9, *["maybe", "else"] * 4, "shield", "shield", *["end"] * 6)
        self.assert_good(*["maybe"] * 5, "else", "end", "shield", "end", *["end"] * 4)

    def test_drain_inside_each(self):
        self.assert_bad(1, "each a", "drain", "end")
        self.assert_bad(2, "each a", "maybe", "drain", "end", "end")
        self.assert_bad(2, "each a", "try", "drain", "rescue", "end", "end")
        self.assert_bad(3, "each a", "try", "finally", "drain", "end", "end")
        self.assert_bad(3, "try", "rescue", "each a", "drain", "end", "end")
        self.assert_good("each a", "try", "rescue", "drain", "end", "end")
        self.assert_good("each a", "try", "rescue", "maybe", "else", "drain", "end", "end", "end")
        self.assert_good("each a", "try", "finally", "try", "rescue", "drain", "end", "end", "end")
        self.assert_good("each a", "try", "rescue", "try", "finally", "drain", "end", "end", "end")
        self.assert_good("each a", "retry 2", "try", "rescue", "drain", "end", "end", "end")
        self.assert_bad(4, "each a", "try", "rescue", "end", "drain", "end")
        self.assert_good("each a", "end", "drain")
        self.assert_good("try", "drain", "finally", "drain", "end", "drain")

    def test_close_inside_each(self):
        self.assert_bad(1, "each a", "close", "end")
        self.assert_bad(2, "each a", "maybe", "close", "end", "end")
        self.assert_bad(2, "each a", "try", "close", "rescue", "end", "end")
        self.assert_bad(3, "each a", "try", "finally", "close", "end", "end")
        self.assert_bad(3, "try", "rescue", "each a", "close", "end", "end")
        self.assert_bad(4, "each a", "try", "rescue", "end", "close", "end")
        self.assert_good("each a", "try", "rescue", "close", "end", "end")
        self.assert_good("each a", "shield", "try", "rescue", "maybe", "close", "end", "end", "end", "end")
        self.assert_good("each a", "end", "close")

    def test_close_inside_each_and_retry(self):
        self.assert_bad(4, "each a", "retry 2", "try", "rescue", "close", "end", "end", "end")
        self.assert_bad(5, "each a", "retry 2", "maybe", "try", "rescue", "close", "end", "end", "end", "end")
        self.assert_bad(5, "each a", "maybe", "retry 1", "try", "rescue", "close", "end", "end", "end", "end")
        self.assert_good("each a", "try", "rescue", "retry 2", "close", "end", "end", "end")
        self.assert_good("retry 2", "each a", "try", "rescue", "close", "end", "end", "end")
        self.assert_good("each a", "retry 2", "end", "try", "rescue", "close", "end", "end")
        self.assert_bad(6, "each a", "retry 1", "try", "rescue", "try", "rescue", "close", "end", "end", "end", "end")
        self.assert_good("each a", "try", "rescue", "retry 1", "try", "rescue", "close", "end", "end", "end", "end")
        self.assert_good("retry 1", "close", "end", "retry 1", "try", "rescue", "close", "end", "end")

    def test_blocks_open_at_the_end(self):
        for place, rows in PLACES.items():
            self.assert_bad(len(rows), *rows)
            self.assert_bad(len(rows) + 1, *rows, "ask")
            self.assert_bad(len(rows) + 3, "maybe", *rows, "ask", "ask")
        self.assert_bad(4, "maybe", "shield", "end", "ask")
        self.assert_bad(24, "shield", *["ask"] * 23)

    def test_each_row_in_each_place(self):
        for depth in range(5):
            for places in product(PLACES, repeat=depth):
                if all(may_stand(PLACES[place][0], places[:at]) for at, place in enumerate(places)):
                    for row in ROWS:
                        self.check_in(places, row)

    def check_in(self, places, row):
        """Whether a row in these places is good, or which row is wrong."""
        lead = [opener for place in places for opener in PLACES[place]]
        still_open = len(places) + (row.split(" ")[0] in OPENERS) - (row == "end")
        if not may_stand(row, places):
            self.assert_bad(len(lead), *lead, row)
        elif still_open:
            self.assert_bad(len(lead) + 1, *lead, row)
        else:
            self.assert_good(*lead, row)


if __name__ == "__main__":
    unittest.main()
