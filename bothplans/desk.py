"""A desk: a cache that is told what to do by texts."""

from bothplans.bundles import finest
from bothplans.cache import Cache
from bothplans.chains import is_joined
from bothplans.errors import InvalidCommand
from bothplans.stores import Store
from bothplans.texts import joined_numbers, numbers_in


class Desk:
    """Does commands with a cache, once one has made it."""

    def __init__(self):
        self.cache = None

    def say(self, command):
        """Does a command and tells what comes of it; InvalidCommand for what is none, or cannot be done now."""
        word, words = _words_of(command)
        if word == "store":
            self.cache = _told_cache(words)
            return "ok"
        if self.cache is None:
            raise InvalidCommand()
        if word == "ask":
            return _do_ask(self.cache, words)
        if word == "change":
            return _do_change(self.cache, words)
        if words:
            raise InvalidCommand()
        return _do_word(self.cache, word)


def _words_of(command):
    """The first word of a command, and the others."""
    if not isinstance(command, str) or "\n" in command:
        raise InvalidCommand()
    words = command.split(" ")
    if "" in words:
        raise InvalidCommand()
    return words[0], words[1:]


def _checked_numbers(words):
    numbers = numbers_in(words, 4)
    if numbers is None:
        raise InvalidCommand()
    return numbers


def _numbers_beside_bar(words):
    """The numbers before and behind the only bar."""
    if words.count("/") != 1:
        raise InvalidCommand()
    at = words.index("/")
    return _checked_numbers(words[:at]), _checked_numbers(words[at + 1:])


def _told_cache(words):
    """A new cache in the first of the states that are told."""
    told, values = _numbers_beside_bar(words)
    if not told or told[0] == 0 or len(told) != told[0] + 1:
        raise InvalidCommand()
    count = told[0]
    if not values or len(values) % count != 0:
        raise InvalidCommand()
    states = [values[at:at + count] for at in range(0, len(values), count)]
    return Cache(Store(told[1:], states), states[0])


def _do_ask(cache, words):
    question, plan = _numbers_beside_bar(words)
    return str(cache.ask(question, plan))


def _do_change(cache, words):
    state = _checked_numbers(words)
    if len(state) != cache.store.key_count:
        raise InvalidCommand()
    cache.change(state)
    return "ok"


def _do_word(cache, word):
    """Does a command of one word."""
    if word == "state":
        return joined_numbers(cache.state())
    if word == "found":
        return str(cache.found())
    if word == "kept":
        return str(len(cache.kept()))
    if word == "bundles":
        return " ".join(["+".join([str(key) for key in bundle]) for bundle in finest(cache.store)])
    if word == "joined":
        return "yes" if is_joined(cache.store) else "no"
    if word == "undo":
        return "ok" if cache.undo() else "nothing"
    raise InvalidCommand()
