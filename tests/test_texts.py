import copy
import unittest

import samples
from turnletters.errors import NoText, NoWeb
from turnletters.texts import read, show
from turnletters.webs import is_web

# Webs and how they are written, by hand.
WRITTEN = (
    ((1, ()), "1"),
    ((2, ()), "2"),
    ((2, ((0, 1),)), "2 0-1"),
    ((4, ((0, 1), (1, 2))), "4 0-1 1-2"),
    ((4, ((0, 3), (1, 2), (1, 3))), "4 0-3 1-2 1-3"),
    ((6, ()), "6"),
    ((6, ((4, 5),)), "6 4-5"),
    ((6, samples.all_pairs(6)), "6 0-1 0-2 0-3 0-4 0-5 1-2 1-3 1-4 1-5 2-3 2-4 2-5 3-4 3-5 4-5"),
)

# Texts that are no web's, and the number of the first wrong word.
WRONG = (
    # the number of places, and blanks ahead
    ("", 0), (" ", 0), ("  ", 0), (" 4", 0), (" 4 0-1", 0), ("0", 0), ("7", 0), ("8 0-1", 0), ("10", 0), ("44", 0),
    ("-1", 0), ("-4", 0), ("+4", 0), ("+1", 0), ("04", 0), ("01", 0), ("4.", 0), ("4,0-1", 0), ("4-", 0), ("a", 0),
    ("four", 0), ("0-1", 0), ("0-1 4", 0), ("\t4", 0), ("4\t", 0), ("4\n", 0), ("4\t0-1", 0), ("4\n0-1", 0),
    ("\n4 0-1", 0), ("x 0-1 1-0", 0), ("4_", 0), ("1_0", 0), ("None", 0), ("(4, ())", 0),
    # blanks behind and between
    ("4 ", 1), ("4  ", 1), ("1 ", 1), ("4 0-1 ", 2), ("4 0-1 1-2 ", 3), ("4  0-1", 1), ("4 0-1  1-2", 2),
    ("4 0-1 1-2  2-3", 3), ("6 0-1 0-2 0-3 0-4 ", 5),
    # order
    ("4 0-1 0-1", 2), ("4 1-2 0-1", 2), ("4 0-2 0-1", 2), ("4 0-1 1-2 0-3", 3), ("4 0-1 1-2 1-2", 3),
    ("4 0-3 1-2 1-2 7", 3), ("4 2-3 0-1 0-2", 2), ("4 0-1 2-3 1-2 2-3", 3),
    # the places of a tie
    ("4 1-0", 1), ("4 1-1", 1), ("4 0-0", 1), ("4 0-1 2-1", 2), ("4 0-4", 1), ("4 3-4", 1), ("4 4-5", 1), ("1 0-1", 1),
    ("1 0-0", 1), ("2 0-1 0-2", 2), ("2 1-2", 1), ("6 0-6", 1), ("6 5-6", 1), ("4 0-10", 1), ("6 -1-0", 1),
    ("4 0-1 9-9", 2),
    # how a tie is written
    ("4 00-1", 1), ("4 0-01", 1), ("4 01-2", 1), ("4 +0-1", 1), ("4 0-+1", 1), ("4 0--1", 1), ("4 -0-1", 1),
    ("4 -0-01", 1), ("4 01", 1), ("4 0", 1), ("4 0 1", 1), ("4 -", 1), ("4 0-", 1), ("4 -1", 1), ("4 0-1-", 1),
    ("4 -0-1", 1), ("4 0-1-2", 1), ("4 0-1 1-2-3", 2), ("4 0_1", 1), ("4 0~1", 1), ("4 0,1", 1), ("4 0-1,", 1),
    ("4 0-1,1-2", 1), ("4 0-1\t", 1), ("4 0-1\n", 1), ("4 0-1\t1-2", 1), ("4 0-1\n1-2", 1), ("4 \t0-1", 1),
    ("4 0-1 \n", 2), ("4 0-1 1-2\n", 2), ("4 0-\t1", 1), ("4 a-b", 1), ("4 0-b", 1), ("4 0-1 1-2x", 2), ("4 (0,1)", 1),
    ("4 0-1 4", 2), ("4 0-1 1-2 x 2-3", 3), ("4 0-1 " + "0" * 29 + "1-2", 2), ("4 0-1" * 16, 1),
)

NO_TEXTS = tuple(thing for thing in samples.ODD_THINGS if not isinstance(thing, str)) + (
    0, 1, 4, (4, ()), (4, ((0, 1),)), ["4 0-1"], ("4", "0-1"), {"4": 1}, [4], ("4",), ["4"],
)


def refused_at(test, thing):
    with test.assertRaises(NoText) as caught:
        read(thing)
    test.assertIs(type(caught.exception.at), int)
    return caught.exception.at


class Show(unittest.TestCase):
    """[13]: how a web is written."""

    def test_by_hand(self):
        for web, text in WRITTEN:
            with self.subTest(text=text):
                self.assertEqual(show(web), text)

    def test_no_web(self):
        for thing in samples.NO_WEBS:
            with self.subTest(thing=thing):
                with self.assertRaises(NoWeb):
                    show(thing)


class Read(unittest.TestCase):
    """[13]: which web a text writes."""

    def test_by_hand(self):
        for web, text in WRITTEN:
            with self.subTest(text=text):
                self.assertEqual(read(text), web)

    def test_what_is_read_is_a_web(self):
        for _, text in WRITTEN:
            with self.subTest(text=text):
                self.assertIs(is_web(read(text)), True)

    def test_what_is_written_is_read_to_the_same(self):
        webs = [web for many in range(1, 5) for web in samples.all_webs(many)]
        webs += samples.some_webs(5) + samples.some_webs(6)
        for web in webs:
            with self.subTest(web=web):
                self.assertEqual(read(show(web)), web)

    def test_unlike_webs_are_written_unlike(self):
        webs = [web for many in range(1, 5) for web in samples.all_webs(many)]
        self.assertEqual(len({show(web) for web in webs}), len(webs))

    def test_the_first_wrong_word(self):
        for text, at in WRONG:
            with self.subTest(text=text):
                self.assertEqual(refused_at(self, text), at)

    def test_a_wrong_word_in_each_place(self):
        words = show((6, samples.all_pairs(6))).split(" ")
        for at in range(len(words)):
            for wrong in ("", "x", "5-0", "07", "0-0", "6-7", "-1"):
                with self.subTest(at=at, wrong=wrong):
                    self.assertEqual(refused_at(self, " ".join(words[:at] + [wrong] + words[at + 1:])), at)
                with self.subTest(behind=at, wrong=wrong):
                    # What is wrong further on does not count.
                    self.assertEqual(refused_at(self, " ".join(words[:at] + [wrong, "y", "", "1-0"])), at)

    def test_any_other_sign_of_ascii(self):
        for code in range(128):
            sign = chr(code)
            if sign not in "123456":
                with self.subTest(sign=sign):
                    self.assertEqual(refused_at(self, sign), 0)
            if sign not in " ":
                with self.subTest(sign=sign):
                    self.assertEqual(refused_at(self, "4" + sign), 0)
                    self.assertEqual(refused_at(self, "4 0-1" + sign), 1)
                    self.assertEqual(refused_at(self, "4 0-1 " + sign + "1-2"), 2)
            if sign not in "-":
                with self.subTest(sign=sign):
                    self.assertEqual(refused_at(self, "4 0" + sign + "1 1-2"), 1)

    def test_a_text_of_eighty_signs(self):
        self.assertEqual(refused_at(self, "4" * 80), 0)
        self.assertEqual(refused_at(self, "4" + " " * 79), 1)
        self.assertEqual(refused_at(self, "4 0-" + "1" * 76), 1)

    def test_what_is_no_text(self):
        for thing in NO_TEXTS:
            with self.subTest(thing=thing):
                self.assertEqual(refused_at(self, thing), 0)


class NothingIsChanged(unittest.TestCase):
    """[4]: what is handed in stays as it is; the same asked again has the same answer."""

    def test_what_is_told(self):
        for web, text in WRITTEN:
            with self.subTest(text=text):
                kept = copy.deepcopy(web)
                self.assertEqual((show(web), show(web)), (text, text))
                self.assertEqual((read(text), read(text)), (kept, kept))
                self.assertEqual(web, kept)

    def test_what_is_refused(self):
        for thing in NO_TEXTS:
            kept = copy.deepcopy(thing)
            for _ in range(2):
                with self.subTest(thing=thing):
                    self.assertEqual(refused_at(self, thing), 0)
                    with self.assertRaises(NoWeb):
                        show([thing])
                    self.assertEqual(thing, kept)
        for _ in range(2):
            self.assertEqual(refused_at(self, "4 0-1 1-0"), 2)


if __name__ == "__main__":
    unittest.main()
