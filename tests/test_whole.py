"""What DOC.md promises of all functions alike: [1] to [6]."""

import copy
import unittest
from itertools import product

import samples
from turnletters import barred, changes, chords, every, often, orders, runs, search, texts, webs, words
from turnletters.desk import Desk
from turnletters.errors import NoNumber, NoPlace, NoRun, NoText, NoWeb, NoWord, TooMany, TurnError

PATH = samples.path(4)
EDGE = (2, ((0, 1),))
SIX = (6, samples.all_pairs(6))
WORD = "abacbdcd"

# Of each function: things that it takes, and for each what a thing is handed in as.
TAKES = (
    (webs.is_web, (PATH,), "t"), (webs.is_word, (WORD, PATH), "tw"), (webs.take_turns, (PATH, WORD, 0, 1), "wopp"),
    (webs.turned_web, (4, WORD), "no"), (webs.shows, (PATH, WORD), "wo"),
    (texts.show, (PATH,), "w"), (texts.read, ("4 0-1 1-2",), "t"),
    (words.times, (PATH, WORD), "wo"), (words.is_even, (PATH, WORD), "wo"), (words.first_wrong, (PATH, WORD), "wo"),
    (words.from_behind, (PATH, WORD), "wo"), (words.led_on, (PATH, WORD, 3), "won"),
    (words.alone, (PATH, WORD, (0, 2)), "wop"), (words.firsts, (PATH, WORD), "wo"), (words.longer, (PATH, WORD), "wo"),
    (runs.is_run, ((1, 1, 1), PATH), "tw"), (runs.is_fault, (None, PATH, (1, 1, 1)), "twr"),
    (runs.fault_of, (PATH, (1, 1, 1)), "wr"), (runs.first_good, (PATH,), "w"), (runs.good_many, (PATH,), "w"),
    (search.word_for, (PATH,), "w"),
    (often.first_even, (PATH, 2), "wn"), (often.even_many, (EDGE, 2), "wn"), (often.least_letters, (PATH,), "w"),
    (often.shortest, (PATH,), "w"),
    (orders.is_order_word, (PATH, "abcddcba"), "wo"), (orders.orders_of, (PATH, "abcddcba"), "wo"),
    (orders.order_word, (PATH, 2), "wn"), (orders.passes_on, (PATH, (1, -1, 1)), "wr"),
    (orders.first_passing, (PATH,), "w"),
    (chords.is_chord_word, (PATH, WORD), "wo"), (chords.web_at, (PATH, 1), "wp"),
    (chords.word_at, (PATH, WORD, 1), "wop"),
    (chords.web_by_two, (PATH, 1, 2), "wpp"), (chords.word_by_two, (PATH, WORD, 1, 2), "wopp"),
    (chords.are_alike, (PATH, WORD, WORD), "woo"), (chords.first_alike, (PATH, WORD), "wo"),
    (changes.without, (PATH, 1), "wp"), (changes.word_without, (PATH, WORD, 1), "wop"),
    (changes.beside, (PATH, EDGE), "ww"), (changes.word_beside, (PATH, WORD, EDGE, "ab"), "wowo"), (changes.with_leaf, (PATH, 1), "wp"),
    (changes.with_twin, (PATH, 1), "wp"), (changes.with_double, (PATH, 1), "wp"),
    (changes.leaf_word, (PATH, WORD, 1), "wop"), (changes.twin_word, (PATH, WORD, 1), "wop"),
    (changes.double_word, (PATH, WORD, 1), "wop"),
    (every.words_of, (EDGE, 4), "wn"), (every.words_many, (EDGE, 4), "wn"), (every.kinds, (EDGE, 4), "wn"),
    (every.by_webs, (3, 4), "nn"),
    (barred.is_bar, (None, PATH), "tw"), (barred.bar_for, (PATH,), "w"), (barred.barring_place, (PATH,), "w"),
)

# Things of six places that are refused with TooMany where nothing else is due.
TOO_MANY = (
    (runs.good_many, (SIX,)), (often.first_even, (SIX, 2)), (often.even_many, (SIX, 2)), (often.even_many, (PATH, 1)),
    (often.least_letters, (SIX,)), (often.shortest, (SIX,)), (orders.order_word, (SIX, 1)),
    (changes.beside, (SIX, PATH)), (changes.word_beside, (PATH, WORD, SIX, "abcdef")), (changes.with_leaf, (SIX, 5)),
    (changes.with_twin, (SIX, 5)), (changes.with_double, (SIX, 5)), (changes.leaf_word, (SIX, "fedcba", 5)),
    (changes.twin_word, (SIX, "fedcba", 5)), (changes.double_word, (SIX, "fedcba", 5)), (every.words_of, (PATH, 6)),
    (every.words_many, (PATH, 6)), (every.kinds, (PATH, 6)),
)

# What is none of what it is handed in as, and how it is refused.
NONE_OF = {
    "w": (NoWeb, (None, [4, []], (4, ((1, 0),)), "4 0-1", (7, ()), True)),
    "o": (NoWord, (None, "", "abcx", ["a", "b"], 7, "abcdefabc0")),
    "p": (NoPlace, (None, -1, 6, True, "0", [0])),
    "n": (NoNumber, (None, -1, 99, True, "1", [1])),
    "r": (NoRun, (None, (), (1, 1, 0), [1, 1, 1], (True, 1, 1), "1")),
}


def due(kinds, bad):
    """The refusal that goes first where the things told are bad: NoWeb, then from the left."""
    marks = [kind for kind, wrong in zip(kinds, bad) if wrong]
    return NONE_OF["w" if "w" in marks else marks[0]][0]


def wrong_rows(things, kinds):
    """Rows of things some of which are bad, each with what is due."""
    for bad in product((False, True), repeat=len(things)):
        if any(bad) and not any(wrong and kind == "t" for kind, wrong in zip(kinds, bad)):
            for at in range(6):
                row = [NONE_OF[kind][1][at] if wrong else thing for thing, kind, wrong in zip(things, kinds, bad)]
                yield row, due(kinds, bad)


class Refused(unittest.TestCase):
    """[5]: which refusal goes first, and of which class it is."""

    def check(self, ask, row, wanted):
        kept = copy.deepcopy(row)
        with self.assertRaises(TurnError, msg=(ask.__name__, row)) as caught:
            ask(*row)
        self.assertIs(type(caught.exception), wanted, (ask.__name__, row))
        self.assertEqual(row, kept)

    def test_all_functions_are_here(self):
        # Those that are handed in a thing alone are refused with none of these.
        self.assertEqual(len(TAKES), len({ask for ask, _, _ in TAKES}))
        self.assertEqual(len(TAKES), 54)

    def test_what_is_taken_is_not_refused(self):
        for ask, things, _ in TAKES:
            ask(*things)

    def test_no_web_first_and_then_from_the_left(self):
        for ask, things, kinds in TAKES:
            for row, wanted in wrong_rows(things, kinds):
                self.check(ask, row, wanted)

    def test_too_many_behind_all_else(self):
        kinds_of = {ask: kinds for ask, _, kinds in TAKES}
        for ask, things in TOO_MANY:
            self.check(ask, list(things), TooMany)
            for row, wanted in wrong_rows(things, kinds_of[ask]):
                self.check(ask, row, wanted)

    def test_no_text(self):
        for thing in (None, [], "x", "4 1-0"):
            self.check(texts.read, [thing], NoText)


class Told(unittest.TestCase):
    """[4]: nothing handed in is changed, and what is told is the asker's own."""

    def test_asked_twice(self):
        for ask, things, _ in TAKES:
            with self.subTest(ask=ask.__name__):
                samples.ask_twice(self, ask, *things)

    def test_lists_and_dicts_are_new(self):
        some = 0
        for ask, things, _ in TAKES:
            told = ask(*things)
            if isinstance(told, (list, dict)):
                some += 1
                kept = copy.deepcopy(told)
                with self.subTest(ask=ask.__name__):
                    self.assertIsNot(ask(*things), told)
                    told.clear()
                    self.assertEqual(ask(*things), kept)
        self.assertEqual(some, 4)

    def test_truths_and_numbers(self):
        for ask, things, _ in TAKES:
            if ask.__name__.startswith(("is_", "are_", "take", "shows", "passes")):
                self.assertIs(type(ask(*things)), bool, ask.__name__)
            if ask.__name__.endswith(("_many", "_letters")):
                self.assertIs(type(ask(*things)), int, ask.__name__)


class HandedInAgain(unittest.TestCase):
    """[3]: what this program told may be handed in again, whatever its size."""

    def test_a_word_made_longer_of_one_of_eighty_letters(self):
        for word in ("ab" * 40, ("abcd" * 20), "a" * 77 + "bcd", ("edcba" * 16)):
            many = len(set(word))
            web = samples.shown(many, word)
            for _ in range(4):
                word = words.longer(web, word)
                self.assertEqual(webs.turned_web(many, word), web)
                self.check_taken(web, word)

    def check_taken(self, web, word):
        """Check that what takes a word takes this one, and tells of it as of others."""
        many = web[0]
        self.assertIs(webs.shows(web, words.from_behind(web, word)), True)
        self.assertEqual(words.led_on(web, words.led_on(web, word, 81), len(word) - 81), word)
        self.assertIs(webs.take_turns(web, word, 0, 1), (0, 1) in web[1])
        self.assertIsNone(words.first_wrong(web, word))
        self.assertEqual(sum(words.times(web, word)), len(word))
        self.assertIs(chords.is_chord_word(web, word), False)
        if orders.is_order_word(web, word):
            self.assertEqual(len(orders.orders_of(web, word)), len(word) // many)
        self.assertIs(webs.shows(changes.without(web, 0), changes.word_without(web, word, 0)), True)
        told = changes.word_beside(web, word, (1, ()), word.count("a") * "a")
        self.assertIs(webs.shows(changes.beside(web, (1, ())), told), True)
        for ask, ask_word in ((changes.with_leaf, changes.leaf_word), (changes.with_twin, changes.twin_word),
                              (changes.with_double, changes.double_word)):
            self.assertIs(webs.shows(ask(web, many - 1), ask_word(web, word, many - 1)), True)
        desk = Desk()
        desk.say("web " + texts.show(web))
        self.assertEqual(desk.say("word " + word), word)
        self.assertEqual(desk.say("shows"), "yes")

    def test_a_bar_of_many_parts(self):
        for web in samples.all_numbered(samples.WHEEL)[::9]:
            self.assertIs(barred.is_bar(barred.bar_for(web), web), True)

    def test_webs_that_are_told(self):
        for web in every.by_webs(3, 6):
            for place in range(3):
                told = changes.with_double(changes.with_twin(changes.with_leaf(web, place), place), place)
                self.assertEqual(texts.read(texts.show(told)), told)
                self.assertEqual(chords.web_at(chords.web_at(told, place), place), told)
                self.assertIs(webs.shows(told, search.word_for(told)), True)


class ThePromise(unittest.TestCase):
    """[6]: a word that is told for a web shows it; where none is told, papers show that there is none."""

    def test_words_that_are_told(self):
        for many in range(1, 5):
            for web in samples.all_webs(many):
                told = [search.word_for(web), often.first_even(web, 1), often.first_even(web, 2), often.shortest(web)]
                told += [orders.order_word(web, 1), orders.order_word(web, 2)]
                told += every.words_of(web, 6) if many < 4 else []
                for word in told:
                    if word is not None:
                        self.assertEqual(samples.shown(many, word), web, word)

    def test_where_none_is_told(self):
        for web in samples.all_numbered(samples.WHEEL)[::7]:
            self.assertIsNone(search.word_for(web))
            self.assertIsNone(runs.first_good(web))
            self.assertIs(barred.is_bar(barred.bar_for(web), web), True)
            self.assertIsNotNone(barred.barring_place(web))


if __name__ == "__main__":
    unittest.main()
