"""All words that show a web, of so many letters, and their kinds."""

from turnletters.webs import MOST_COUNTED, all_words, check_few, check_number, check_web, shows, turned_web
from turnletters.words import times

MOST_LETTERS = 6


def words_of(web, number):
    """Tell all words of just so many letters that show the web, as a rising list."""
    check_web(web)
    check_number(number, 0, MOST_LETTERS)
    check_few(web[0], MOST_COUNTED)
    return [word for word in all_words(web[0], number) if shows(web, word)]


def words_many(web, number):
    """Tell how many words of just so many letters show the web."""
    return len(words_of(web, number))


def counted(things):
    """Tell how often each of the things stands among them, a dict."""
    found = {}
    for thing in things:
        found[thing] = found.get(thing, 0) + 1
    return found


def kinds(web, number):
    """Tell how many words of so many letters that show the web have each letter how often, a dict."""
    return counted([times(web, word) for word in words_of(web, number)])


def by_webs(many, number):
    """Tell how many words of so many letters show each web of so many places that some of them show, a dict."""
    check_number(many, 1, MOST_COUNTED)
    check_number(number, 0, MOST_LETTERS)
    return counted([turned_web(many, word) for word in all_words(many, number)])
