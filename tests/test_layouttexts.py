import itertools
import unittest

from evenmeet.errors import NoLayout, NoText
from evenmeet.layouts import layout_of
from evenmeet.layouttexts import read_layout, show_layout
from tests.things import Drawn, drawn_layouts, no_wholes

NO_NUMBERS = """
    00 01 007 0000 00000 12345 00001 10000 99999 -1 +1 -0 1- 1_0 0x1 1e1 a A O l one 1a a1
    ~ ! # $ & ( ) * , ; / < > ? @ [ ] ^ _ ` { | } " ' \\ = 1,2 1; .5.
""".split()


class Shown(unittest.TestCase):
    def test_known_ones(self):
        self.assertEqual(show_layout((3, ((0, 1), (), (0, 1, 2)))), "3: 0.1 - 0.1.2")
        self.assertEqual(show_layout((1, ())), "1:")
        self.assertEqual(show_layout((60, ())), "60:")
        self.assertEqual(show_layout((1, ((),))), "1: -")
        self.assertEqual(show_layout((1, ((0,), (0,), ()))), "1: 0 0 -")
        self.assertEqual(show_layout((12, ((9, 10, 11), (1, 11)))), "12: 9.10.11 1.11")
        self.assertEqual(show_layout((60, ((0, 7, 10, 59),))), "60: 0.7.10.59")

    def test_each_shown_layout_is_read_back_as_it_was(self):
        for M in drawn_layouts():
            text = show_layout(M)
            self.assertIs(type(text), str)
            if len(text) <= 4000:
                told = read_layout(text)
                self.assertEqual(told, M)
                self.assertIs(type(told[1]), tuple)

    def test_all_numbers_of_points_and_blocks(self):
        for points in range(1, 61):
            M = (points, (tuple(range(points)), (), (points - 1,)))
            self.assertEqual(show_layout(M), f"{points}: " + ".".join(map(str, range(points))) + f" - {points - 1}")
            self.assertEqual(read_layout(show_layout(M)), M)
        for many in range(201):
            M = (21, ((0, 20),) * many)
            self.assertEqual(show_layout(M), "21:" + " 0.20" * many)
            self.assertEqual(read_layout(show_layout(M)), M)


class Read(unittest.TestCase):
    def test_known_ones(self):
        self.assertEqual(read_layout("3: 0.1 - 0.1.2"), (3, ((0, 1), (), (0, 1, 2))))
        self.assertEqual(read_layout("3:"), (3, ()))
        self.assertEqual(read_layout("1: 0"), (1, ((0,),)))
        self.assertEqual(read_layout("10: 9 - -"), (10, ((9,), (), ())))
        self.assertEqual(read_layout("60: 59.0"), (60, ((0, 59),)))

    def test_points_in_any_order(self):
        for block in itertools.permutations((0, 3, 10, 11)):
            word = ".".join(str(point) for point in block)
            self.assertEqual(read_layout(f"12: {word} - {word}"), (12, ((0, 3, 10, 11), (), (0, 3, 10, 11))))

    def test_each_reading_is_as_the_layout_made_of_the_numbers(self):
        drawn = Drawn(17)
        for points in (1, 2, 9, 10, 11, 37, 60):
            for many in (0, 1, 4, 15):
                blocks = drawn.blocks(points, many)
                words = [".".join(str(point) for point in block) or "-" for block in blocks]
                text = " ".join([f"{points}:"] + words)
                self.assertEqual(read_layout(text), layout_of(points, blocks))

    def refused(self, text):
        with self.assertRaises(NoText, msg=repr(text)) as caught:
            read_layout(text)
        self.assertIs(type(caught.exception), NoText)

    def test_what_is_no_text(self):
        for thing in no_wholes() + [3, 0, ["3:"], ("3:",), b"3:", (3, ()), {"3:": 1}]:
            if not isinstance(thing, str):
                self.refused(thing)

    def test_what_is_no_number_at_each_place(self):
        for word in NO_NUMBERS + [""]:
            for text in (f"{word}:", f"{word}: 0", f"3: {word}", f"3: 0 {word}", f"3: {word} 0", f"3: - {word} -"):
                self.refused(text)
            for text in (f"3: 0.{word}", f"3: {word}.0", f"3: 0.{word}.1", f"30: 2 0.{word} 1"):
                self.refused(text)

    def test_other_signs(self):
        for code in range(ord(" "), ord("~") + 1):
            sign = chr(code)
            if not sign.isdigit():
                self.refused(f"{sign}:")
                self.refused(f"3{sign}:")
                self.refused(f"3:{sign}")
                self.refused(f"3: 1{sign}")
                self.refused(f"3: 0.{sign}")
                self.refused(f"3: {sign}.0")
                self.refused(f"{sign}3: 1")
                if sign != "-":
                    self.refused(f"3: {sign}")
                    self.refused(f"3: 0 {sign}")

    def test_blanks(self):
        for text in (" 3:", "3 :", "3: ", "3:  ", "3:  0", "3: 0 ", "3: 0  1", "3: - ", "3:  -", "3: 0.1 -  0"):
            self.refused(text)
        for text in ("3: 0. 1", "3: 0 .1", "3: 0 . 1", " 3: 0", "3 : 0", "3: 0\n", "3:\n", "3:\t0", "\n3:", "3:\n0"):
            self.refused(text)

    def test_colons(self):
        for text in ("", " ", "  ", "3", "3 0", "3 0.1 -", "0.1", ":", "::", "3::", "3:: 0", ":3", ": 0"):
            self.refused(text)
        for text in ("3: 0: 1", "3: 0 :", "3: :", "3:0", "3:-", "3:0.1 -", "3.:", ".3:", "3.1:", "-:", "-: 0"):
            self.refused(text)

    def test_parts_left_out(self):
        for word in (".", "..", "0.", ".0", "0..1", "0.1.", ".0.1", "-.", ".-", "-.0", "0.-", "--", "0-", "-0"):
            for text in (f"3: {word}", f"3: 0 {word}", f"3: {word} -"):
                self.refused(text)

    def test_figures_of_other_scripts_are_no_figures(self):
        for sign in ("\u0663", "\u00b2", "\uff13", "\u2462"):
            self.refused(f"{sign}:")
            self.refused(f"9: {sign}")

    def not_laid(self, place, text):
        with self.assertRaises(NoLayout, msg=text) as caught:
            read_layout(text)
        self.assertIs(type(caught.exception), NoLayout)
        self.assertIs(type(caught.exception.place), type(place))
        self.assertEqual(caught.exception.place, place, text)

    def test_numbers_of_the_form_that_are_no_layout(self):
        for number in (0, 61, 62, 100, 999, 1000, 9999):
            for tail in ("", " -", " 0", " 0.0", " 9999"):
                self.not_laid(None, f"{number}:{tail}")
        self.not_laid(0, "3: 3")
        self.not_laid(0, "3: 9999")
        self.not_laid(0, "3: 0.0")
        self.not_laid(1, "3: 0.1 1.2.1 7")
        self.not_laid(2, "60: 59 - 60 0.0")
        self.not_laid(3, "10: 9 - 0.1.2 0.1.2.10")
        self.not_laid(199, "1:" + " 0" * 199 + " 1")

    def test_too_many_blocks(self):
        self.assertEqual(read_layout("1:" + " -" * 200), (1, ((),) * 200))
        for many in (201, 202, 1999):
            self.not_laid(None, "1:" + " -" * many)
        self.not_laid(None, "1: 5" + " 0" * 200)

    def test_the_text_goes_ahead_of_the_layout(self):
        for text in ("0: x", "61: 0.", "61: 01", "3: 7 -0", "3: 0.0 1..2", "0", "99: ", "3: 9 12345"):
            self.refused(text)
        self.refused("1:" + " -" * 201 + " ")


if __name__ == "__main__":
    unittest.main()
