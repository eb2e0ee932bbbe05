"""Words that show a web and have each letter so often, and its shortest words."""

from turnletters.webs import (
    LETTERS, MOST_COUNTED, MOST_SEARCHED, all_words, check_few, check_number, check_web, has_letters, shows, turns_in)
from turnletters.words import is_even


def first_begun(web, begun, number, most):
    """Tell the first word of so many letters, each at most so often, that shows the web and begins as told, or None."""
    many, ties = web
    # Two tied letters that have stopped taking turns don't begin again: no need to go on from there.
    if not all(turns_in(begun, one, other) for one, other in ties):
        return None
    if len(begun) == number:
        return begun if has_letters(begun, many) and shows(web, begun) else None
    for letter in LETTERS[:many]:
        if begun.count(letter) < most:
            word = first_begun(web, begun + letter, number, most)
            if word is not None:
                return word
    return None


def first_even(web, number):
    """Tell the first word, as texts are ordered, that has each letter so often and shows the web, None without one."""
    check_web(web)
    check_number(number, 1, 2)
    check_few(web[0], MOST_SEARCHED)
    return first_begun(web, "", number * web[0], number)


def even_many(web, number):
    """Tell how many words have each letter so often and show the web."""
    check_web(web)
    check_number(number, 1, 2)
    check_few(web[0], MOST_COUNTED)
    words = all_words(web[0], number * web[0])
    return len([word for word in words if is_even(web, word) and shows(web, word)])


def shortest(web):
    """Tell the first word, as texts are ordered, of those that show the web with the fewest letters."""
    check_web(web)
    check_few(web[0], MOST_SEARCHED)
    number = web[0]
    word = first_begun(web, "", number, number)
    # So few places always have a word with each letter twice, so this ends.
    while word is None:
        number += 1
        word = first_begun(web, "", number, number)
    return word


def least_letters(web):
    """Tell how many letters the shortest words that show the web have."""
    return len(shortest(web))
