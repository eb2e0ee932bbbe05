"""A desk that keeps a web and a word of it, and answers lines."""

from turnletters.errors import NoLine, NoNumber, NoText, TooMany
from turnletters.often import first_even
from turnletters.runs import first_good
from turnletters.texts import read, show
from turnletters.webs import LETTERS, is_word, shows
from turnletters.words import first_wrong, from_behind, longer, times

MOST_LETTERS_LONGER = 24


def joined(numbers):
    """Tell the numbers as a text, with a blank between each two."""
    return " ".join([str(number) for number in numbers])


def yes_or_no(truth):
    """Tell a truth as a text."""
    return "yes" if truth else "no"


def answer_told(web, word):
    """Answer the web's text."""
    return show(web)


def answer_letters(web, word):
    """Answer the word."""
    return word


def answer_shows(web, word):
    """Answer whether the word shows the web."""
    return yes_or_no(shows(web, word))


def answer_wrong(web, word):
    """Answer the first two places that are wrong."""
    wrong = first_wrong(web, word)
    return "none" if wrong is None else joined(wrong)


def answer_times(web, word):
    """Answer how often each letter stands."""
    return joined(times(web, word))


def answer_run(web, word):
    """Answer the first good run."""
    run = first_good(web)
    if run is None:
        return "none"
    return "".join(["+" if mark == 1 else "-" for mark in run]) if run else "free"


def answer_pair(web, word):
    """Answer the first word with each letter twice that shows the web."""
    pair = first_even(web, 2)
    return "none" if pair is None else pair


def answer_barred(web, word):
    """Answer whether the web has no good run."""
    return yes_or_no(first_good(web) is None)


# What is asked, and changes nothing.
ASKED = {
    "told": answer_told, "letters": answer_letters, "shows": answer_shows, "wrong": answer_wrong,
    "times": answer_times, "run": answer_run, "pair": answer_pair, "barred": answer_barred,
}


def read_web(text):
    """Read the web of a line, refuse with NoLine what is none."""
    try:
        return read(text)
    except NoText:
        raise NoLine("no web's text in the line") from None


def read_word(text, web):
    """Read the word of a line, refuse with NoLine what is no word of the web."""
    if not is_word(text, web):
        raise NoLine("no word of the web in the line")
    return text


def made_longer(web, word):
    """Tell the word made longer, refuse with TooMany one of too many letters."""
    told = longer(web, word)
    if len(told) > MOST_LETTERS_LONGER:
        raise TooMany("more letters than are taken")
    return told


def changed_by(line, web, word):
    """Tell the web and the word that stand after a line that changes them, refuse with NoLine what is none."""
    if line.startswith("web "):
        other = read_web(line[4:])
        return other, LETTERS[:other[0]]
    if line.startswith("word "):
        return web, read_word(line[5:], web)
    if line == "behind":
        return web, from_behind(web, word)
    if line == "longer":
        return web, made_longer(web, word)
    raise NoLine("none of a desk's lines")


class Desk:
    """A web, and a word of it, which lines ask for and change."""

    def __init__(self):
        self.web = (1, ())
        self.word = "a"
        # The webs and words that the changes which stand were made to.
        self.undone = []

    def say(self, line):
        """Answer a line."""
        if not isinstance(line, str):
            raise NoLine("not a text")
        if line in ASKED:
            answer = ASKED[line]
            return answer(self.web, self.word)
        if line == "back":
            return self.step_back()
        return self.change(line)

    def step_back(self):
        """Undo the last change that stands, and answer the word."""
        if not self.undone:
            raise NoNumber("nothing stands to be undone")
        self.web, self.word = self.undone.pop()
        return self.word

    def change(self, line):
        """Do what a line asks to be changed, and answer it."""
        # What is refused must not get any further than this.
        web, word = changed_by(line, self.web, self.word)
        self.undone.append((self.web, self.word))
        self.web, self.word = web, word
        return str(len(web[1])) if line.startswith("web ") else word
