"""Point 31: texts of yards and of orders, and the places where others are wrong."""

import unittest

from tests import plain
from tests.samples import EMPTY, FULL, LINE, LONE_ROOMS, RING, STAR, WIDE, chosen, small
from walledin.errors import BadOrder, BadYard, InvalidText, NotText
from walledin.texts import read_order, read_yard, write_order, write_yard

SIGNS = "0123456789<>=:, -+x\n\u0663\u00b2"
NO_TEXTS = (None, True, 0, 1, (), ("1:",), ["1:"], {}, b"1:", "1:" * 51, " " * 101, "3:0<1" + " " * 96)
TWELVE = (9, ((0, 8, 2),) * 12)


def changed(text):
    """All texts with one sign of a text changed or dropped, or one put in, and all that end earlier."""
    found = {text[:place] for place in range(len(text))}
    for place in range(len(text) + 1):
        for sign in SIGNS:
            found.add(text[:place] + sign + text[place:])
            found.add(text[:place] + sign + text[place + 1:])
        found.add(text[:place] + text[place + 1:])
    return sorted(found)


class Texts(unittest.TestCase):
    def expect_place(self, place, function, *row):
        with self.assertRaises(InvalidText, msg=repr(row)) as caught:
            function(*row)
        self.assertEqual(caught.exception.place, place, repr(row))


class Yards(Texts):
    def test_edges(self):
        self.assertEqual([write_yard(EMPTY), write_yard(LONE_ROOMS), write_yard((9, ()))], ["1:", "4:", "9:"])
        self.assertEqual([read_yard("1:"), read_yard("4:"), read_yard("2:0=1")], [EMPTY, LONE_ROOMS, (2, ((0, 1, 2),))])
        self.assertEqual([len(write_yard(FULL)), read_yard(write_yard(FULL))], [49, FULL])
        self.assertEqual(write_yard(WIDE), "9:0<8 1>8 2=8 3<7 0=7")

    def test_all_sorts_of_yards(self):
        for yard in small() + [FULL, TWELVE] + chosen(50, 9, 12, 51):
            self.assertTrue(plain.is_yard_text(write_yard(yard)))
            self.assertEqual(read_yard(write_yard(yard)), yard)

    def test_wrong_yards(self):
        with self.assertRaises(BadYard) as caught:
            write_yard((2, ((0, 1, 0), (0, 2, 0))))
        self.assertEqual(caught.exception.index, 1)

    def test_no_texts(self):
        for value in NO_TEXTS:
            with self.assertRaises(NotText):
                read_yard(value)

    def test_a_hundred_signs_are_a_text(self):
        self.expect_place(2, read_yard, "3:" + " " * 98)
        self.expect_place(2, read_yard, "1:" * 50)
        text = write_yard(TWELVE) + " 0<1" * 12
        self.expect_place(49, read_yard, text)
        self.expect_place(0, read_yard, "x" * 100)

    def test_places(self):
        for text, place in (("", 0), ("0", 0), ("0:", 0), (":", 0), ("3", 1), ("10:", 1), ("3;", 1), ("3 :", 1),
                            ("1: ", 2), ("1:0", 2), ("1:0<1", 2), ("3: ", 2), ("3:<", 2), ("3:2", 2), ("3:2>1", 2),
                            ("3:9", 2), ("3:0", 3), ("3:0-", 3), ("3:00", 3), ("3:0<", 4), ("3:0<0", 4), ("3:1<1", 4),
                            ("3:1<0", 4), ("3:0<3", 4), ("3:0< 1", 4), ("3:0<1,", 5), ("3:0<12", 5), ("3:0<1 ", 6),
                            ("3:0<1  ", 6), ("3:0<1 2", 6), ("3:0<1 1", 7), ("3:0<1 1<", 8), ("3:0<1 1<1", 8),
                            ("3:0<1 1<2\n", 9), ("9:8", 2), ("9:7<7", 4), ("9:7<", 4), ("\u0663:", 0), ("3:\u00b2", 2)):
            self.expect_place(place, read_yard, text)
        # A room without a higher one cannot be the lower room, all others can.
        self.assertEqual(read_yard("9:7>8"), (9, ((7, 8, 1),)))

    def test_twelve_walls(self):
        text = write_yard(TWELVE)
        self.expect_place(len(text), read_yard, text + " ")
        self.expect_place(len(text), read_yard, text + " 0<1")
        self.expect_place(len(text) - 1, read_yard, text[:-1])
        self.expect_place(len(text) - 4, read_yard, text[:-4] + "," + text[-3:])
        self.expect_place(46, read_yard, text[:45] + " ")

    def test_changed_texts(self):
        yards = [EMPTY, LONE_ROOMS, LINE, RING, WIDE, TWELVE, FULL] + chosen(6, 5, 4, 52)
        for yard in yards:
            for text in changed(write_yard(yard)):
                place = plain.wrong_place(text)
                if place is None:
                    self.assertEqual(write_yard(read_yard(text)), text)
                else:
                    self.expect_place(place, read_yard, text)


class Orders(Texts):
    def test_edges(self):
        self.assertEqual([write_order(EMPTY, ()), read_order(EMPTY, ""), write_order((2, ((0, 1, 0),)), (0,))],
                         ["", (), "0"])
        self.assertEqual(write_order(TWELVE, tuple(range(12))), "0,1,2,3,4,5,6,7,8,9,10,11")
        self.assertEqual(read_order(TWELVE, "11,10,9,8,7,6,5,4,3,2,1,0"), tuple(range(11, -1, -1)))

    def test_walked_or_not(self):
        for yard in small():
            for order in plain.every_order(yard):
                self.assertEqual(read_order(yard, write_order(yard, order)), order)

    def test_wrong_arguments(self):
        for order in ((0, 0), (0,), None, [0, 1], "0,1", (0, True)):
            with self.assertRaises(BadOrder):
                write_order(LINE, order)
        with self.assertRaises(BadYard):
            write_order((3, 0), (0, 0))
        for value in NO_TEXTS:
            with self.assertRaises(NotText):
                read_order(LINE, value)
            with self.assertRaises(BadYard):
                read_order((3, 0), value)
        with self.assertRaises(BadYard):
            read_order((3, 0), "x")

    def test_places(self):
        for text, place in (("", 0), (",", 0), ("x", 0), (" 0,1,2", 0), ("3", 0), ("3,0,1", 0), ("00,1,2", 0),
                            ("01,2", 0), ("10,1,2", 0), ("-1", 0), ("+0,1,2", 0), ("\u0660,1,2", 0), ("0", 1),
                            ("0 ,1,2", 1), ("0;1", 1), ("0\u0661", 1), ("0,", 2), ("0,,", 2), ("0,0,1", 2),
                            ("0,3,1", 2), ("0,x", 2), ("0,01,2", 2), ("0,12", 2), ("0,1", 3), ("0,1 ", 3), ("0,1,", 4),
                            ("0,1,1", 4), ("0,1,0", 4), ("0,1,3", 4), ("0,1,22", 4), ("0,1,2,", 5), ("0,1,2 ", 5),
                            ("0,1,2x", 5), ("0,1,2\n", 5), ("0,1,2,3", 5), ("1" * 100, 0)):
            self.expect_place(place, read_order, STAR, text)
        self.expect_place(5, read_order, STAR, "2,1,0" + "," * 95)

    def test_without_walls(self):
        for text in ("0", ",", " ", "x", "0,", "00"):
            self.expect_place(0, read_order, LONE_ROOMS, text)

    def test_two_digits(self):
        self.expect_place(2, read_order, TWELVE, "1,12,0")
        self.expect_place(3, read_order, TWELVE, "10,10,1")
        self.expect_place(3, read_order, TWELVE, "10,010")
        self.expect_place(5, read_order, TWELVE, "11,10")

    def test_changed_texts(self):
        for yard, order in ((EMPTY, ()), ((2, ((0, 1, 0),)), (0,)), (LINE, (1, 0)), (STAR, (2, 0, 1)),
                            (TWELVE, (0, 11, 1, 10, 2, 9, 3, 8, 4, 7, 5, 6))):
            for text in changed(write_order(yard, order)):
                place = plain.wrong_place_of_order(text, len(yard[1]))
                if place is None:
                    self.assertEqual(write_order(yard, read_order(yard, text)), text)
                else:
                    self.expect_place(place, read_order, yard, text)


if __name__ == "__main__":
    unittest.main()
