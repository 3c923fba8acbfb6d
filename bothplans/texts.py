"""Stores as texts."""

from bothplans.errors import InvalidText
from bothplans.kinds import is_row
from bothplans.stores import Store


def store_text(store):
    """A line with the sizes, then a line for each state."""
    lines = ["store " + _joined(store.sizes)]
    lines.extend([_joined(state) for state in store.states])
    return "\n".join(lines)


def _joined(numbers):
    return " ".join([str(number) for number in numbers])


def read_store(text):
    """The store with exactly this text; InvalidText with the index of the first line that does not fit."""
    if not isinstance(text, str):
        raise InvalidText(0)
    lines = text.split("\n")
    sizes = _sizes_in(lines[0])
    if sizes is None:
        raise InvalidText(0)
    states = []
    for at in range(1, len(lines)):
        state = _numbers_in(lines[at].split(" "))
        if not is_row(state, sizes) or (states and state <= states[-1]):
            raise InvalidText(at)
        states.append(state)
    if not states:
        raise InvalidText(len(lines))
    return Store(sizes, states)


def _sizes_in(line):
    words = line.split(" ")
    sizes = _numbers_in(words[1:])
    if words[0] != "store" or not sizes or 0 in sizes:
        return None
    return sizes


def _numbers_in(words):
    """The numbers that these words are, as a tuple, or None if one of them is no number."""
    if not all([_is_number_word(word) for word in words]):
        return None
    return tuple([int(word) for word in words])


def _is_number_word(word):
    # A text stands for one store only if each number can be written in just one way.
    return len(word) <= 2 and word.isascii() and word.isdigit() and str(int(word)) == word
