"""Words made of orders, and runs that pass on."""

from itertools import permutations

from turnletters.errors import NoWord
from turnletters.runs import check_run, first_run, ways_of
from turnletters.webs import (
    LETTERS, MOST_SEARCHED, check_few, check_number, check_web, check_word_of, has_letters, turned_web)


def stretches_of(word, many):
    """Tell the stretches of so many letters that the word is made of; the last one may be less long."""
    return [word[at:at + many] for at in range(0, len(word), many)]


def is_order_word(web, word):
    """Tell whether the word is made of orders one behind the other."""
    check_word_of(web, word)
    many = web[0]
    # A stretch has no room for a letter twice beside one of each.
    return all(has_letters(stretch, many) for stretch in stretches_of(word, many))


def orders_of(web, word):
    """Tell the orders that the word is made of, a list of tuples of places."""
    if not is_order_word(web, word):
        raise NoWord("not a word of orders")
    return [tuple([LETTERS.index(letter) for letter in stretch]) for stretch in stretches_of(word, web[0])]


def order_words(many, number):
    """Tell all words of so many orders of so many places, as a rising list."""
    letters = LETTERS[:many]
    orders = ["".join(order) for order in permutations(letters)]
    words = [""]
    for _ in range(number):
        words = [word + order for word in words for order in orders]
    return words


def order_word(web, number):
    """Tell the first word, as texts are ordered, of so many orders that shows the web, None where there is none."""
    check_web(web)
    check_number(number, 1, 2)
    check_few(web[0], MOST_SEARCHED)
    many = web[0]
    for word in order_words(many, number):
        if turned_web(many, word) == web:
            return word
    return None


def passes_so_far(web, begun):
    """Tell whether a run, perhaps only begun, passes on wherever all of its directions are told."""
    many, ties = web
    ways = ways_of(web, begun)
    undirected = ties[len(begun):]
    for place in range(many):
        for after in ways[place]:
            for far in ways[after]:
                if far not in ways[place] and (min(place, far), max(place, far)) not in undirected:
                    return False
    return True


def passes_on(web, run):
    """Tell whether the run leads from a to c wherever it leads from a to b and from b to c."""
    check_run(web, run)
    return passes_so_far(web, run)


def first_passing(web):
    """Tell the first run of the web that passes on, as tuples are ordered, None where there is none."""
    check_web(web)
    # What does not pass on stays so whatever directions come behind.
    return first_run(web, (), passes_so_far)
