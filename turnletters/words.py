"""What is told of a web's word, and words made of it."""

from turnletters.webs import LETTERS, check_number, check_places, check_word_of, letters_alone, pairs_of, turns_in


def times(web, word):
    """Tell how often each letter stands in the word, place by place."""
    check_word_of(web, word)
    return tuple([word.count(letter) for letter in LETTERS[:web[0]]])


def is_even(web, word):
    """Tell whether each letter stands as often in the word."""
    often = times(web, word)
    return min(often) == max(often)


def first_wrong(web, word):
    """Tell the first two places that are tied or take turns, but not both; None where the word shows the web."""
    check_word_of(web, word)
    many, ties = web
    for pair in pairs_of(many):
        one, other = pair
        if turns_in(word, one, other) != (pair in ties):
            return pair
    return None


def from_behind(web, word):
    """Tell the word from behind."""
    check_word_of(web, word)
    return word[::-1]


def led_on(web, word, number):
    """Tell the word with so many of its first letters behind the others."""
    check_word_of(web, word)
    check_number(number, 0, len(word))
    return word[number:] + word[:number]


def alone(web, word, some):
    """Tell the letters of some places alone, as they stand in the word."""
    check_word_of(web, word)
    check_places(some, web[0])
    return letters_alone(word, some)


def firsts(web, word):
    """Tell the places in the order in which their letters first come in the word."""
    check_word_of(web, word)
    found = []
    for letter in word:
        place = LETTERS.index(letter)
        if place not in found:
            found.append(place)
    return tuple(found)


def longer(web, word):
    """Tell the word with the letters of its firsts ahead of it."""
    return "".join([LETTERS[place] for place in firsts(web, word)]) + word
