"""Point 5: webs as texts."""

import re
import unittest
from itertools import product
from random import Random

from shiftcore.errors import InvalidText, NotText
from shiftcore.webtext import read_web, write_web
from tests import plain

FULL_32 = (32, tuple((s, e, 0) for s in range(32) for e in range(32))[:100])


def plain_reading(text):
    """Return the web of a text, or the place at which it is not allowed: by marks, one after the other."""
    marks = [(found.start(), found.group()) for found in re.finditer("[0-9]+|[^0-9 ]", text)]
    numbers, edges, many = [], [], None
    for count, (place, mark) in enumerate(marks):
        # The marks go: number, then again and again: semicolon and three numbers.
        if count % 4 == 1:
            if mark != ";" or count == 401:
                return place
            continue
        most = 32 if count == 0 else 3 if count % 4 == 0 else many - 1
        if not re.fullmatch("0|[1-9][0-9]*", mark) or len(mark) > 9 or int(mark) > most:
            return place
        if count == 0:
            many = int(mark)
            continue
        numbers.append((place, int(mark)))
        if len(numbers) == 3:
            edge = tuple(number for _, number in numbers)
            if edges and edge <= edges[-1]:
                return numbers[0][0]
            edges.append(edge)
            numbers = []
    if len(marks) % 4 != 1:
        return len(text)
    return many, tuple(edges)


def reading(text):
    """Return the web of a text, or the place of its error."""
    try:
        return read_web(text)
    except InvalidText as error:
        return error.place


class Texts(unittest.TestCase):
    def test_write(self):
        self.assertEqual(write_web((0, ())), "0")
        self.assertEqual(write_web((32, ())), "32")
        self.assertEqual(write_web((12, ((0, 11, 3), (10, 0, 0)))), "12; 0 11 3; 10 0 0")
        for web in plain.SPECIAL:
            text = str(web[0])
            for edge in web[1]:
                text += "; " + " ".join(str(number) for number in edge)
            self.assertEqual(write_web(web), text)

    def test_written_webs_are_read(self):
        for web in plain.SPECIAL + [FULL_32] + plain.random_webs(21, 200, 32, 4, 3):
            self.assertEqual(read_web(write_web(web)), web)

    def test_spaces_in_all_places(self):
        self.assertEqual(read_web("   2  ;  0  0  1  ;  0 1  0   "), (2, ((0, 0, 1), (0, 1, 0))))
        self.assertEqual(read_web("2;0 0 1;0 1 0"), (2, ((0, 0, 1), (0, 1, 0))))
        self.assertEqual(read_web(" 0 "), (0, ()))
        for web in plain.SPECIAL[4:]:
            for wide in (" ", "   "):
                text = write_web(web).replace(";", wide + ";").replace(" ", wide)
                self.assertEqual(read_web(wide + text + wide), web)
                self.assertEqual(read_web(write_web(web).replace("; ", ";")), web)

    def test_all_short_texts(self):
        for length in range(7):
            for letters in product("01 ;a", repeat=length):
                text = "".join(letters)
                self.assertEqual(reading(text), plain_reading(text), text)

    def test_all_ends_of_a_text(self):
        for length in range(6):
            for letters in product("0 ;24", repeat=length):
                text = "4; 1 2 2; " + "".join(letters)
                self.assertEqual(reading(text), plain_reading(text), text)

    def test_changed_texts(self):
        rng = Random(22)
        for web in plain.random_webs(23, 400, 14, 4, 2):
            letters = list(write_web(web))
            for _ in range(rng.randint(1, 3)):
                at = rng.randint(0, len(letters))
                letters[at:at + rng.randint(0, 2)] = rng.choice(["", " ", "0", "1", "9", ";", "x", "-1", " 3", "; "])
            text = "".join(letters)
            self.assertEqual(reading(text), plain_reading(text), text)

    def check_place(self, text, place):
        with self.assertRaises(InvalidText) as caught:
            read_web(text)
        self.assertEqual(caught.exception.place, place, text)

    def test_characters_that_are_not_allowed(self):
        for text, place in [("x", 0), ("-1", 0), (" ;", 1), ("2,", 1), ("2; 0 0 1.", 8), ("2 3", 2), ("2;;", 2),
                            ("2; 0 0; 1", 6), ("2; 0 0 1 1", 9), ("2; 0 0 1 ;; 0 1 0", 10), ("+2", 0), ("2; a 0 0", 3),
                            ("2\n", 1), ("\t2", 0), ("2;\n0 0 0", 2), ("2\u00a0", 1), ("\u0662", 0), ("\u00b2", 0),
                            ("2; 0 0 \u0661", 7), ("2; 0_0 0", 4), ("(2; 0 0 0)", 0), ("2; 0 0 0x", 8), ("\uff11", 0)]:
            self.check_place(text, place)

    def test_numbers_that_are_not_allowed(self):
        for text, place in [("33", 0), (" 00", 1), ("007", 0), ("01", 0), ("320", 0), ("9" * 5000, 0), ("2; 00 0 0", 3),
                            ("2; 2 0 0", 3), ("2; 0 2 0", 5), ("2; 0 0 4", 7), ("2; 1 01 0", 5), ("0; 0 0 0", 3),
                            ("2; 0 0 10", 7), ("2; 0 0 03", 7), ("1; 1 0 0", 3), ("12; 0 11 3; 12 0 0", 12),
                            ("2; 0 0 " + "3" * 6000, 7), ("2; " + "0" * 4400 + " 0 0", 3), ("12; 0 012 0", 6)]:
            self.check_place(text, place)

    def test_edges_that_are_not_greater(self):
        for text, place in [("2; 0 0 1; 0 0 1", 10), ("2; 0 1 0;   0 0 3", 12), ("2; 1 0 0; 0 1 1; x", 10),
                            ("2; 0 0 1; 0 0 0x", 10), ("2; 0 0 0; 0 0 0; 0 0 0", 10), ("12; 10 0 0;9 0 0", 11)]:
            self.check_place(text, place)
        # What is wrong within an edge comes before its being compared.
        for text, place in [("2; 1 0 0; 0 1 x", 14), ("2; 1 0 0; 0 1 4", 14), ("2; 1 0 0; 0 1", 13)]:
            self.check_place(text, place)

    def test_texts_that_end_too_early(self):
        for text in ["", " ", "     ", "2;", "2; ", "2; 0", "2; 0  ", "2; 0 0", "2; 0 0 ", "2; 0 0 0;", "0;",
                     "2; 0 0 0; 1 1"]:
            self.check_place(text, len(text))

    def test_a_hundred_edges(self):
        text = write_web(FULL_32)
        self.assertEqual(text.count(";"), 100)
        self.assertEqual(read_web(text + "  "), FULL_32)
        self.check_place(text + ";", len(text))
        self.check_place(text + "  ; 31 31 3", len(text) + 2)
        self.check_place(text + " 5; 31 31 3", len(text) + 1)

    def test_not_text(self):
        for value in [None, 0, 2, True, False, (), ("2",), ["2"], {}, {"2": 2}]:
            with self.assertRaises(NotText):
                read_web(value)


if __name__ == "__main__":
    unittest.main()
