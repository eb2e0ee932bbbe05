"""Chord words, in which each letter stands just twice, and webs and such words turned at places."""

from turnletters.errors import NoPlace, NoWord
from turnletters.webs import LETTERS, check_place, check_web, pairs_of, tied_to
from turnletters.words import times


def is_chord_word(web, word):
    """Tell whether each letter stands just twice in the word."""
    return times(web, word) == (2,) * web[0]


def check_chord_word(web, thing):
    """Refuse what is no web, then what is no chord word of it."""
    if not is_chord_word(web, thing):
        raise NoWord("not a chord word of the web")


def check_tied(web, one, other):
    """Refuse what are no two places of the web that are tied."""
    check_place(one, web[0])
    check_place(other, web[0])
    if other not in tied_to(web, one):
        raise NoPlace("the second place is not tied to the first one")


def turned_at(web, place):
    """Tell the web turned at one of its places."""
    many, ties = web
    near = tied_to(web, place)
    return many, tuple([
        (one, other) for one, other in pairs_of(many)
        if ((one, other) in ties) != (one in near and other in near)])


def word_turned_at(word, place):
    """Tell the chord word turned at one of its places."""
    letter = LETTERS[place]
    first, last = word.index(letter), word.rindex(letter)
    return word[:first] + word[first:last + 1][::-1] + word[last + 1:]


def web_at(web, place):
    """Tell the web turned at the place: of those tied to it, each two that are tied are so no more, and others are."""
    check_web(web)
    check_place(place, web[0])
    return turned_at(web, place)


def word_at(web, word, place):
    """Tell the chord word turned at the place: what stands between both its letters comes from behind."""
    check_chord_word(web, word)
    check_place(place, web[0])
    return word_turned_at(word, place)


def web_by_two(web, one, other):
    """Tell the web turned at the first of two tied places, then at the second one, then at the first one again."""
    check_web(web)
    check_tied(web, one, other)
    return turned_at(turned_at(turned_at(web, one), other), one)


def word_by_two(web, word, one, other):
    """Tell the chord word turned at the first of two tied places, then at the second one, then at the first again."""
    check_chord_word(web, word)
    check_tied(web, one, other)
    return word_turned_at(word_turned_at(word_turned_at(word, one), other), one)


def all_alike(word):
    """Tell the words that come of the word by leading it on, straight or from behind."""
    return [text[at:] + text[:at] for text in (word, word[::-1]) for at in range(len(word))]


def are_alike(web, word, other):
    """Tell whether the one chord word comes of the other by leading it on, straight or from behind."""
    check_chord_word(web, word)
    check_chord_word(web, other)
    return other in all_alike(word)


def first_alike(web, word):
    """Tell the first, as texts are ordered, of all words that are alike to the chord word."""
    check_chord_word(web, word)
    return min(all_alike(word))
