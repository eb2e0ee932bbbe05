"""Webs left without a place, put beside one another, or with a place put to them, and words with them."""

from turnletters.errors import NoPlace
from turnletters.webs import (
    LETTERS, MOST_PLACES, check_few, check_place, check_web, check_word, check_word_of, letters_alone, tied_to)
from turnletters.words import longer


def web_alone(web, some):
    """Tell the web of some places alone, a rising list, by their order."""
    ties = [(some.index(one), some.index(other)) for one, other in web[1] if one in some and other in some]
    return len(some), tuple(ties)


def word_alone(word, some):
    """Tell the letters of some places alone, a rising list, as those of their web are called."""
    return "".join([LETTERS[some.index(LETTERS.index(letter))] for letter in letters_alone(word, some)])


def check_spared(web, place):
    """Refuse what is no place of the web, or its last one left."""
    check_place(place, web[0])
    if web[0] == 1:
        raise NoPlace("no other place is left")


def others_of(web, place):
    """Tell the other places of the web, as a rising list."""
    return [other for other in range(web[0]) if other != place]


def without(web, place):
    """Tell the web left without the place: the places above it are one less."""
    check_web(web)
    check_spared(web, place)
    return web_alone(web, others_of(web, place))


def word_without(web, word, place):
    """Tell the word left without the place's letter: each later letter is the one ahead of it."""
    check_word_of(web, word)
    check_spared(web, place)
    return word_alone(word, others_of(web, place))


def check_beside(web, other):
    """Refuse two webs that have too many places together."""
    check_few(web[0] + other[0], MOST_PLACES)


def beside(web, other):
    """Tell both webs as one, the other one's places numbered on behind the one's."""
    check_web(web)
    check_web(other)
    check_beside(web, other)
    many = web[0]
    return many + other[0], web[1] + tuple([(less + many, more + many) for less, more in other[1]])


def word_beside(web, word, other, more):
    """Tell the word of one web made longer, and behind it that of the other one, by its new letters."""
    check_web(web)
    check_web(other)
    check_word(word, web[0])
    check_word(more, other[0])
    check_beside(web, other)
    return longer(web, word) + "".join([LETTERS[LETTERS.index(letter) + web[0]] for letter in more])


def check_room(web, place):
    """Refuse what is no place of the web, then a web that has no room for one more."""
    check_place(place, web[0])
    check_few(web[0] + 1, MOST_PLACES)


def with_last(web, near):
    """Tell the web with one place more, the last one, which is tied to those told."""
    many, ties = web
    return many + 1, tuple(sorted(list(ties) + [(place, many) for place in near]))


def with_leaf(web, place):
    """Tell the web with one place more, tied to the place alone."""
    check_web(web)
    check_room(web, place)
    return with_last(web, [place])


def with_twin(web, place):
    """Tell the web with one place more, tied to the place and to all that are tied to it."""
    check_web(web)
    check_room(web, place)
    return with_last(web, [place] + tied_to(web, place))


def with_double(web, place):
    """Tell the web with one place more, tied just to all that are tied to the place."""
    check_web(web)
    check_room(web, place)
    return with_last(web, tied_to(web, place))


def leaf_word(web, word, place):
    """Tell the word with a leaf's letter: ahead of the place's first letter, and behind each of the place's letters."""
    check_word_of(web, word)
    check_room(web, place)
    own, new = LETTERS[place], LETTERS[web[0]]
    return word.replace(own, new + own, 1).replace(own, own + new)


def twin_word(web, word, place):
    """Tell the word with a twin's letter: behind each of the place's letters."""
    check_word_of(web, word)
    check_room(web, place)
    own, new = LETTERS[place], LETTERS[web[0]]
    return word.replace(own, own + new)


def double_word(web, word, place):
    """Tell the word made longer, with a double's letter: behind the place's first letter, ahead of each other one."""
    check_word_of(web, word)
    check_room(web, place)
    own, new = LETTERS[place], LETTERS[web[0]]
    ahead, _, behind = longer(web, word).partition(own)
    return ahead + own + new + behind.replace(own, new + own)
