import copy
import unittest

import samples
from turnletters.errors import NoNumber, NoPlace, NoWeb, NoWord
from turnletters.webs import is_word, shows
from turnletters.words import alone, first_wrong, firsts, from_behind, is_even, led_on, longer, times

FOUR = (4, ((0, 1), (1, 2), (2, 3)))

# Each function with the arguments that it takes behind a web and a word.
ASKED = ((times, ()), (is_even, ()), (first_wrong, ()), (from_behind, ()), (led_on, (1,)), (alone, ((0,),)),
         (firsts, ()), (longer, ()))

# Words, and how often each letter stands.
TIMES = (
    ("a", (1,)), ("aaaa", (4,)), ("a" * 80, (80,)), ("ab", (1, 1)), ("ba", (1, 1)), ("bab", (1, 2)), ("aabab", (3, 2)),
    ("cab", (1, 1, 1)), ("ccbca", (1, 1, 3)), ("dddabacd", (2, 1, 1, 4)), ("edcba" * 3, (3,) * 5),
    ("abcdef", (1,) * 6), ("ffedcbabcf", (1, 2, 2, 1, 1, 3)), ("ab" * 40, (40, 40)), ("a" + "b" * 79, (1, 79)),
    ("abcde" * 16, (16,) * 5), ("abcdef" * 13 + "fa", (14, 13, 13, 13, 13, 14)),
)

# A web, a word of it, and the first two places that are wrong.
WRONG = (
    ((1, ()), "aa", None),
    ((2, ()), "aabb", None),
    ((2, ((0, 1),)), "bab", None),
    # a tie too many
    ((2, ((0, 1),)), "aabb", (0, 1)),
    ((4, ((0, 1), (1, 2), (2, 3))), "abacbdcd", None),
    ((4, ((0, 1), (0, 3), (1, 2), (2, 3))), "abacbdcd", (0, 3)),
    ((4, ((0, 1), (1, 2), (1, 3), (2, 3))), "abacbdcd", (1, 3)),
    # a tie too few
    ((2, ()), "ab", (0, 1)),
    ((4, ((1, 2), (2, 3))), "abacbdcd", (0, 1)),
    ((4, ((0, 1), (2, 3))), "abacbdcd", (1, 2)),
    ((4, ((0, 1), (1, 2))), "abacbdcd", (2, 3)),
    # several are wrong: a tie too many ahead of one too few, and the other way about
    ((4, ((0, 1), (0, 2), (2, 3))), "abacbdcd", (0, 2)),
    ((4, ((0, 2), (1, 2), (2, 3))), "abacbdcd", (0, 1)),
    ((4, ((0, 1), (0, 3), (1, 3), (2, 3))), "abacbdcd", (0, 3)),
    ((4, ((0, 1), (1, 3))), "abacbdcd", (1, 2)),
    ((4, ()), "abcd", (0, 1)),
    ((6, ((0, 1),)), "abcdef", (0, 2)),
    ((6, samples.all_pairs(6)[:-1]), "fedcba", (4, 5)),
    ((6, samples.all_pairs(6)), "aabbccddeeff", (0, 1)),
)

# Words and their firsts.
FIRSTS = (
    ("a", (0,)), ("aaa", (0,)), ("ab", (0, 1)), ("ba", (1, 0)), ("bbba", (1, 0)), ("cabcab", (2, 0, 1)),
    ("bcbcca", (1, 2, 0)), ("ddbdcbaa", (3, 1, 2, 0)), ("fedcba", (5, 4, 3, 2, 1, 0)), ("acebdf", (0, 2, 4, 1, 3, 5)),
)


def web_for(word):
    return (len(set(word)), ())


def short_words():
    for many, most in ((1, 4), (2, 6), (3, 6), (4, 6)):
        for length in range(many, most + 1):
            for word in samples.all_words(many, length):
                yield many, word


def even_words():
    for many, often in ((1, 1), (1, 3), (2, 1), (2, 2), (2, 3), (3, 1), (3, 2), (4, 1)):
        for word in samples.all_words(many, many * often):
            if len({word.count(letter) for letter in word}) == 1:
                yield many, word
    for word in ("abcdabdc", "adbcbdca", "abcabdcd", "ddccbbaa", "abcdefabcdef", "abcfedafbecd", "aabbccddeeff"):
        yield len(set(word)), word


class Told(unittest.TestCase):
    """[21]: what is told of a word."""

    def test_times(self):
        for word, often in TIMES:
            with self.subTest(word=word):
                self.assertEqual(times(web_for(word), word), often)
                self.assertIs(type(times(web_for(word), word)), tuple)

    def test_even(self):
        for word in ("a", "aaa", "ab", "abab", "aabb", "cab", "ccbbaa", "abcdef", "ab" * 40, "abcde" * 16, "fedcba" * 13):
            with self.subTest(word=word):
                self.assertIs(is_even(web_for(word), word), True)

    def test_one_letter_once_more(self):
        for many in range(2, 7):
            for often in (1, 2, 80 // many - 1):
                for more in samples.LETTERS[:many]:
                    with self.subTest(many=many, often=often, more=more):
                        word = samples.LETTERS[:many] * often
                        self.assertIs(is_even((many, ()), word), True)
                        self.assertIs(is_even((many, ()), word + more), False)
                        self.assertIs(is_even((many, ()), more + word), False)

    def test_one_letter_less(self):
        for many in range(2, 7):
            for less in samples.LETTERS[:many]:
                with self.subTest(many=many, less=less):
                    word = samples.LETTERS[:many] + samples.LETTERS[:many].replace(less, "")
                    self.assertIs(is_even((many, ()), word), False)

    def test_ties_do_not_count(self):
        for word, often in TIMES:
            many = len(often)
            web = (many, samples.all_pairs(many))
            with self.subTest(word=word):
                self.assertEqual(times(web, word), often)
                self.assertIs(is_even(web, word), len(set(often)) == 1)
                self.assertEqual(firsts(web, word), firsts((many, ()), word))

    def test_first_wrong(self):
        for web, word, wrong in WRONG:
            with self.subTest(web=web, word=word):
                self.assertEqual(first_wrong(web, word), wrong)

    def test_first_wrong_of_all_webs_of_three_places(self):
        for length in range(3, 7):
            for word in samples.all_words(3, length):
                shown = samples.shown(3, word)[1]
                for web in samples.all_webs(3):
                    wrong = sorted(set(web[1]) ^ set(shown))
                    self.assertEqual(first_wrong(web, word), wrong[0] if wrong else None, (web, word))

    def test_none_just_where_the_word_shows_the_web(self):
        for word in ("abcd", "abacbdcd", "ddccbbaa", "abcdabdc", "bacadadbc"):
            for web in samples.all_webs(4):
                with self.subTest(web=web, word=word):
                    self.assertIs(first_wrong(web, word) is None, shows(web, word))


class FromBehindAndLedOn(unittest.TestCase):
    """[22]: the word from behind, and the word led on."""

    def test_from_behind(self):
        for word, wanted in (("a", "a"), ("ab", "ba"), ("aab", "baa"), ("abacbdcd", "dcdbcaba"), ("abcdef", "fedcba")):
            with self.subTest(word=word):
                self.assertEqual(from_behind(web_for(word), word), wanted)

    def test_from_behind_of_eighty_letters(self):
        word = "a" + "b" * 39 + "ba" * 20
        self.assertEqual(from_behind((2, ()), word), "ab" * 20 + "b" * 39 + "a")

    def test_led_on(self):
        for word, number, wanted in (
                ("a", 0, "a"), ("a", 1, "a"), ("ab", 0, "ab"), ("ab", 1, "ba"), ("ab", 2, "ab"), ("abc", 1, "bca"),
                ("abc", 2, "cab"), ("aabcb", 1, "abcba"), ("aabcb", 2, "bcbaa"), ("aabcb", 4, "baabc"),
                ("aabcb", 5, "aabcb"), ("abcdef", 3, "defabc")):
            with self.subTest(word=word, number=number):
                self.assertEqual(led_on(web_for(word), word, number), wanted)

    def test_led_on_by_none_and_by_all(self):
        for word, _ in TIMES:
            with self.subTest(word=word):
                self.assertEqual(led_on(web_for(word), word, 0), word)
                self.assertEqual(led_on(web_for(word), word, len(word)), word)

    def test_led_on_by_each_number(self):
        for word in ("abacbdcd", "abcde" * 16, "fa" + "abcdef" * 13):
            web, by_one = web_for(word), word
            for number in range(len(word) + 1):
                with self.subTest(word=word, number=number):
                    self.assertEqual(led_on(web, word, number), by_one)
                    by_one = by_one[1:] + by_one[0]

    def test_no_number(self):
        for word in ("a", "abcd", "abacbdcd", "ab" * 40):
            for number in samples.NO_NUMBERS + (len(word) + 1, len(word) + 2, 81, -len(word)):
                with self.subTest(word=word, number=number):
                    with self.assertRaises(NoNumber):
                        led_on(web_for(word), word, number)


class Alone(unittest.TestCase):
    """[22]: the letters of some places alone."""

    def test_by_hand(self):
        for word, some, wanted in (
                ("a", (0,), "a"), ("aa", (0,), "aa"), ("abab", (0,), "aa"), ("abab", (1,), "bb"),
                ("abab", (0, 1), "abab"), ("abacbdcd", (0, 1), "abab"), ("abacbdcd", (0, 3), "aadd"),
                ("abacbdcd", (1, 2), "bcbc"), ("abacbdcd", (2,), "cc"), ("abacbdcd", (0, 2, 3), "aacdcd"),
                ("abacbdcd", (1, 2, 3), "bcbdcd"), ("fedcbaabc", (0, 2, 5), "fcaac"), ("fedcbaf", (5,), "ff")):
            with self.subTest(word=word, some=some):
                self.assertEqual(alone(web_for(word), word, some), wanted)

    def test_one_place_and_all_places(self):
        for word, often in TIMES:
            for place, count in enumerate(often):
                with self.subTest(word=word, place=place):
                    self.assertEqual(alone(web_for(word), word, (place,)), samples.LETTERS[place] * count)
            with self.subTest(word=word):
                self.assertEqual(alone(web_for(word), word, tuple(range(len(often)))), word)

    def test_no_place(self):
        for some in samples.NO_SOMES_OF_FOUR:
            with self.subTest(some=some):
                with self.assertRaises(NoPlace):
                    alone(FOUR, "abacbdcd", some)

    def test_no_place_of_each_number_of_places(self):
        for many in range(1, 7):
            for some in ((many,), (0, many), tuple(range(many + 1)), (), (0, 0), list(range(many)), (False,)):
                with self.subTest(many=many, some=some):
                    with self.assertRaises(NoPlace):
                        alone((many, ()), samples.LETTERS[:many], some)


class FirstsAndLonger(unittest.TestCase):
    """[23]: the firsts of a word, and the word made longer."""

    def test_firsts(self):
        for word, wanted in FIRSTS:
            with self.subTest(word=word):
                self.assertEqual(firsts(web_for(word), word), wanted)
                self.assertIs(type(firsts(web_for(word), word)), tuple)

    def test_firsts_by_where_each_letter_first_stands(self):
        for many, word in short_words():
            wanted = sorted(range(many), key=lambda place: word.index(samples.LETTERS[place]))
            self.assertEqual(firsts((many, ()), word), tuple(wanted), word)

    def test_longer(self):
        for word, wanted in (("a", "aa"), ("aa", "aaa"), ("ba", "baba"), ("bbba", "babbba"), ("cabcab", "cabcabcab"),
                             ("ddbdcbaa", "dbcaddbdcbaa"), ("acebdf", "acebdfacebdf")):
            with self.subTest(word=word):
                self.assertEqual(longer(web_for(word), word), wanted)

    def test_longer_is_the_firsts_and_the_word(self):
        for word, _ in TIMES + FIRSTS:
            ahead = "".join(samples.LETTERS[place] for place in firsts(web_for(word), word))
            with self.subTest(word=word):
                self.assertEqual(longer(web_for(word), word), ahead + word)

    def test_the_longer_one_may_be_handed_in(self):
        for word in ("ab" * 40, "fedcba" * 13 + "aa", "a" * 80):
            web = web_for(word)
            for _ in range(5):
                word = longer(web, word)
                with self.subTest(length=len(word)):
                    self.assertIs(is_word(word, web), True)
                    self.assertEqual(sum(times(web, word)), len(word))
                    self.assertEqual(from_behind(web, from_behind(web, word)), word)
                    self.assertEqual(led_on(web, word, len(word)), word)
                    self.assertEqual(led_on(web, word, 81), word[81:] + word[:81])
                    self.assertEqual(alone(web, word, (0,)), "a" * word.count("a"))


class Kept(unittest.TestCase):
    """[24]: what is done to a word keeps what it shows."""

    def test_from_behind(self):
        for many, word in short_words():
            web = samples.shown(many, word)
            self.assertIs(shows(web, from_behind(web, word)), True, word)

    def test_even_words(self):
        for many, word in even_words():
            web = samples.shown(many, word)
            self.assertIs(is_even(web, word), True, word)
            for number in range(len(word) + 1):
                self.assertIs(shows(web, led_on(web, word, number)), True, (word, number))
            self.assertIs(shows(web, longer(web, word)), True, word)
            self.assertIs(shows(web, word + word), True, word)

    def test_a_word_that_is_not_even_may_show_another_web(self):
        self.assertIs(shows((2, ((0, 1),)), "aba"), True)
        self.assertIs(shows((2, ((0, 1),)), led_on((2, ()), "aba", 1)), False)
        self.assertIs(shows((2, ((0, 1),)), "abaaba"), False)

    def test_some_places_alone(self):
        words = list(short_words()) + [(5, "abcdeecabd"), (5, "edabcbdae"), (6, "abcfedafbecd"), (6, "fbadecabcdef")]
        for many, word in words:
            web = samples.shown(many, word)
            for size in range(1, many + 1):
                for some in samples.combinations(range(many), size):
                    left = alone(web, word, some)
                    named = "".join(samples.LETTERS[some.index(samples.LETTERS.index(sign))] for sign in left)
                    self.assertIs(shows(samples.within(web, some), named), True, (word, some))


class Refused(unittest.TestCase):
    """[5]: NoWeb ahead of all else, then from the left."""

    def test_no_web_goes_first(self):
        for web in samples.NO_WEBS:
            for ask, more in ASKED:
                for word in ("abcd", "x", None):
                    with self.subTest(ask=ask.__name__, web=web, word=word):
                        with self.assertRaises(NoWeb):
                            ask(web, word, *more)
            for ask in (led_on, alone):
                with self.subTest(ask=ask.__name__, web=web):
                    with self.assertRaises(NoWeb):
                        ask(web, None, None)

    def test_no_word(self):
        for word in samples.NO_WORDS_OF_THREE:
            for ask, more in ASKED:
                with self.subTest(ask=ask.__name__, word=word):
                    with self.assertRaises(NoWord):
                        ask((3, ((0, 1),)), word, *more)

    def test_no_word_goes_ahead_of_what_stands_behind_it(self):
        for word in samples.NO_WORDS_OF_THREE:
            for more in (-1, 99, True, None, (), (9,), []):
                for ask in (led_on, alone):
                    with self.subTest(ask=ask.__name__, word=word, more=more):
                        with self.assertRaises(NoWord):
                            ask((3, ()), word, more)


class NothingIsChanged(unittest.TestCase):
    """[4]: what is handed in stays as it is; the same asked again has the same answer."""

    def test_what_is_told(self):
        for web, word, _ in WRONG:
            for ask, more in ASKED:
                with self.subTest(ask=ask.__name__, word=word):
                    samples.ask_twice(self, ask, web, word, *more)

    def test_what_is_refused(self):
        for thing in ([0, 1], [[0]], {0: [1]}, [{"a": 1}], (0, [1])):
            kept = copy.deepcopy(thing)
            for _ in range(2):
                with self.subTest(thing=thing):
                    for ask, more in ASKED:
                        self.assertRaises(NoWeb, ask, thing, "abcd", *more)
                        self.assertRaises(NoWord, ask, FOUR, thing, *more)
                    self.assertRaises(NoNumber, led_on, FOUR, "abcd", thing)
                    self.assertRaises(NoPlace, alone, FOUR, "abcd", thing)
                    self.assertEqual(thing, kept)


if __name__ == "__main__":
    unittest.main()
