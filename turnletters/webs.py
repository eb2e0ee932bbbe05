"""Webs, their words, and which places take turns in a word.

The checks here refuse what is handed in to any file of the package.
"""

from turnletters.errors import NoNumber, NoPlace, NoWeb, NoWord, TooMany

LETTERS = "abcdef"
MOST_PLACES = 6

# Where all words are gone through, more places than these would take too long.
MOST_SEARCHED = 4
MOST_COUNTED = 3


def is_whole(thing):
    """Tell whether the thing is a whole number."""
    # Truths are ints to Python, but no whole numbers here.
    return isinstance(thing, int) and not isinstance(thing, bool)


def is_number(thing, least, most):
    """Tell whether the thing is a whole number from the least to the most."""
    return is_whole(thing) and least <= thing <= most


def is_many(thing):
    """Tell whether the thing is a number of places that a web can have."""
    return is_number(thing, 1, MOST_PLACES)


def is_place(thing, many):
    """Tell whether the thing is one of so many places."""
    return is_number(thing, 0, many - 1)


def is_tie(thing, many):
    """Tell whether the thing is a tie of two of so many places."""
    if not isinstance(thing, tuple) or len(thing) != 2:
        return False
    one, other = thing
    return is_place(one, many) and is_place(other, many) and one < other


def is_rising(row):
    """Tell whether each item of the row is greater than the one ahead."""
    return all(less < more for less, more in zip(row, row[1:]))


def is_web(thing):
    """Tell whether the thing is a web."""
    if not isinstance(thing, tuple) or len(thing) != 2:
        return False
    many, ties = thing
    if not is_many(many) or not isinstance(ties, tuple):
        return False
    # Only what surely is a tie can be put in order.
    return all(is_tie(tie, many) for tie in ties) and is_rising(ties)


def has_letters(thing, many):
    """Tell whether the thing is a text of the letters of so many places, each of them in it."""
    return isinstance(thing, str) and sorted(set(thing)) == list(LETTERS[:many])


def check_web(thing):
    """Refuse what is no web."""
    if not is_web(thing):
        raise NoWeb("not a web")


def check_word(thing, many):
    """Refuse what is no word with the letters of so many places."""
    if not has_letters(thing, many):
        raise NoWord("not a word of these letters")


def check_number(thing, least, most):
    """Refuse what is no whole number from the least to the most."""
    if not is_number(thing, least, most):
        raise NoNumber("not a number as it is due")


def check_place(thing, many):
    """Refuse what is none of so many places."""
    if not is_place(thing, many):
        raise NoPlace("not a place of the web")


def check_places(thing, many):
    """Refuse what is no rising tuple of one or more of so many places."""
    if not isinstance(thing, tuple) or not thing:
        raise NoPlace("not a tuple of places")
    # Only what surely is a place can be put in order.
    if not all(is_place(place, many) for place in thing) or not is_rising(thing):
        raise NoPlace("not rising places of the web")


def check_few(many, most):
    """Refuse more places than told."""
    if many > most:
        raise TooMany("more places than are taken")


def check_word_of(web, thing):
    """Refuse what is no web, then what is no word of it."""
    check_web(web)
    check_word(thing, web[0])


def is_word(thing, web):
    """Tell whether the thing is a word of the web."""
    check_web(web)
    return has_letters(thing, web[0])


def pairs_of(many):
    """Tell all pairs of so many places, the lesser place first, as a rising list."""
    return [(one, other) for one in range(many) for other in range(one + 1, many)]


def tied_to(web, place):
    """Tell the places that are tied to the place, as a rising list."""
    many, ties = web
    return [other for other in range(many) if (place, other) in ties or (other, place) in ties]


def all_words(many, number):
    """Tell all words of so many letters with the letters of so many places, as a rising list."""
    texts = [""]
    for _ in range(number):
        texts = [text + letter for text in texts for letter in LETTERS[:many]]
    return [text for text in texts if has_letters(text, many)]


def letters_alone(word, some):
    """Tell the letters of some places alone, as they stand in the word."""
    letters = [LETTERS[place] for place in some]
    return "".join([letter for letter in word if letter in letters])


def turns_in(word, one, other):
    """Tell whether the letters of two unlike places take turns in the word."""
    both = letters_alone(word, (one, other))
    return all(letter != after for letter, after in zip(both, both[1:]))


def take_turns(web, word, one, other):
    """Tell whether two unlike places of the web take turns in its word."""
    check_word_of(web, word)
    many = web[0]
    check_place(one, many)
    check_place(other, many)
    if one == other:
        raise NoPlace("the second place is the first one")
    return turns_in(word, one, other)


def turned_web(many, word):
    """Tell the web of so many places that the word shows."""
    check_number(many, 1, MOST_PLACES)
    check_word(word, many)
    return many, tuple([(one, other) for one, other in pairs_of(many) if turns_in(word, one, other)])


def shows(web, word):
    """Tell whether the word shows the web."""
    check_web(web)
    # What is no word is refused by turned_web.
    return turned_web(web[0], word) == web
