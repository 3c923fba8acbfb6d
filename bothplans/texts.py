"""Stores as texts."""

from bothplans.errors import InvalidText
from bothplans.kinds import is_row
from bothplans.stores import Store


def store_text(store):
    """A line with the sizes, then a line for each state."""
    lines = ["store " + joined_numbers(store.sizes)]
    lines.extend([joined_numbers(state) for state in store.states])
    return "\n".join(lines)


def joined_numbers(numbers):
    """The numbers as words, between single spaces."""
    return " ".join([str(number) for number in numbers])


def read_store(text):
    """The store with exactly this text; InvalidText with the index of the first line that does not fit."""
    if not isinstance(text, str):
        raise InvalidText(0)
    lines = text.split("\n")
    sizes = _sizes_in(lines[0])
    if sizes is None:
        raise InvalidText(0)
    states = []
    for at in range(1, len(lines)):
        state = numbers_in(lines[at].split(" "), 2)
        if not is_row(state, sizes) or (states and state <= states[-1]):
            raise InvalidText(at)
        states.append(state)
    if not states:
        raise InvalidText(len(lines))
    return Store(sizes, states)


def _sizes_in(line):
    words = line.split(" ")
    sizes = numbers_in(words[1:], 2)
    if words[0] != "store" or not sizes or 0 in sizes:
        return None
    return sizes


def numbers_in(words, figures):
    """The numbers that words are, each in at most so many figures, as a tuple; None if one of them is no number."""
    if not all([len(word) <= figures and _is_number_word(word) for word in words]):
        return None
    return tuple([int(word) for word in words])


def _is_number_word(word):
    # A text stands for one thing only if each number can be written in just one way.
    return word.isascii() and word.isdigit() and str(int(word)) == word
