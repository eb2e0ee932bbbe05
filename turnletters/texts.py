"""Webs written as texts, and read from them."""

from turnletters.errors import NoText
from turnletters.webs import MOST_PLACES, check_web, pairs_of


def tie_text(tie):
    """Tell how a tie is written."""
    one, other = tie
    return f"{one}-{other}"


def show(web):
    """Tell how the web is written."""
    check_web(web)
    many, ties = web
    return " ".join([str(many)] + [tie_text(tie) for tie in ties])


def read_many(word):
    """Read a number of places; None where the word is none."""
    for many in range(1, MOST_PLACES + 1):
        if word == str(many):
            return many
    return None


def read_tie(word, many):
    """Read a tie of so many places; None where the word is none."""
    # What is read is just what can be written: a looser parting would let `00-1` or `+0-1` through.
    for tie in pairs_of(many):
        if word == tie_text(tie):
            return tie
    return None


def read_ties(words, many):
    """Read the ties of so many places that stand in order behind the first of the words."""
    ties = []
    for at, word in enumerate(words[1:], start=1):
        tie = read_tie(word, many)
        if tie is None or (ties and tie <= ties[-1]):
            raise NoText(at)
        ties.append(tie)
    return tuple(ties)


def read(text):
    """Read the web that the text writes; refuse with NoText what is no web's text."""
    if not isinstance(text, str):
        raise NoText(0)
    words = text.split(" ")
    many = read_many(words[0])
    if many is None:
        raise NoText(0)
    return many, read_ties(words, many)
