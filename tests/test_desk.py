"""Points [51] and [52]: desks."""

import random
import unittest

from bothplans.bundles import finest
from bothplans.cache import Cache
from bothplans.chains import is_joined
from bothplans.desk import Desk
from bothplans.errors import InvalidCommand, InvalidLot, InvalidQuestion, InvalidState, InvalidStore, Refused
from bothplans.stores import Store
from bothplans.telling import tells
from tests import reference
from tests.support import PlanCase, limit_stores, no_sequences, small_stores, some_questions

SUMS = "store 2 3 3 / 1 1 0 2 2 0"
SQUARE = "store 2 2 2 / 0 1 0 0 1 0 1 1 0 1"


def told(store, first):
    """The command for a store that begins in a state."""
    states = [first] + [state for state in store.states if state != first]
    words = ["store", store.key_count, *store.sizes, "/", *[value for state in states for value in state]]
    return " ".join(map(str, words))


def looks(desk):
    if desk.cache is None:
        return None
    cache = desk.cache
    return cache.store.sizes, cache.store.states, cache.state(), cache.kept(), cache.found(), len(cache)


class DeskTest(PlanCase):
    def said(self, command):
        desk = Desk()
        desk.say(command)
        return desk

    def misses(self, desk, command):
        """The command is none, and nothing is changed by it."""
        before, cache = looks(desk), desk.cache
        with self.assertRaises(InvalidCommand) as caught:
            desk.say(command)
        self.assertIs(type(caught.exception), InvalidCommand)
        self.assertIs(desk.cache, cache)
        self.same(looks(desk), before)

    def fails(self, desk, error, at, command):
        before, cache = looks(desk), desk.cache
        self.refuses(error, at, desk.say, command)
        self.assertIs(desk.cache, cache)
        self.same(looks(desk), before)

    def test_a_session(self):
        desk = Desk()
        self.assertIs(desk.cache, None)
        self.assertIn("cache", vars(desk))
        for command, answer in (
            (SUMS, "ok"), ("state", "1 1"), ("kept", "0"), ("found", "0"), ("bundles", "0+1"), ("joined", "no"),
            ("undo", "nothing"), ("ask 5 6 7 / 1", "6"), ("ask 5 6 7 / 0", "6"), ("kept", "1"), ("found", "1"),
            ("ask 9 9 9 /", "9"), ("kept", "2"), ("found", "2"), ("change 2 0", "ok"), ("state", "2 0"), ("kept", "1"),
            ("ask 5 6 7 / 1 0", "7"), ("found", "3"), ("undo", "ok"), ("undo", "ok"), ("state", "1 1"), ("kept", "2"),
            ("found", "2"), ("undo", "ok"), ("undo", "ok"), ("undo", "ok"), ("undo", "nothing"), ("kept", "0"), ("found", "0"),
            ("change 1 1", "ok"), ("undo", "ok"), (SQUARE, "ok"), ("undo", "nothing"), ("state", "0 1"), ("bundles", "0 1"),
            ("joined", "yes"), ("ask 0 1000 2 9999 / 1 0", "1000"), ("change 1 1", "ok"), ("ask 0 1000 2 9999 / 0 1", "9999"),
        ):
            self.same(desk.say(command), answer)
        self.same(desk.say(command="state"), "1 1")

    def test_a_new_cache_in_the_first_state(self):
        desk = self.said(SUMS)
        self.assertIs(type(desk.cache), Cache)
        self.assertEqual(desk.cache.store, Store([3, 3], [(0, 2), (1, 1), (2, 0)]))
        self.same(looks(desk)[2:], ((1, 1), (), 0, 0))
        cache = desk.cache
        desk.say("ask 1 2 3 / 0")
        self.same(desk.say(SQUARE), "ok")
        self.assertIsNot(desk.cache, cache)
        self.same(looks(desk)[2:], ((0, 1), (), 0, 0))
        self.same(self.said("store 1 9999 / 9998").say("state"), "9998")
        self.same(self.said("store 1 1 / 0 0 0").say("state"), "0")
        self.same(self.said("store 3 1 2 1 / 0 1 0").say("bundles"), "0 1 2")
        self.same(self.said("store 3 2 2 2 / 0 0 0 0 0 1 1 1 0 1 1 1").say("bundles"), "0+1 2")

    def test_many_stores(self):
        chance = random.Random(51)
        for store in list(small_stores())[::4] + limit_stores():
            start = chance.choice(store.states)
            desk = Desk()
            self.same(desk.say(told(store, start)), "ok")
            self.assertEqual(desk.cache.store, store)
            self.same(desk.say("state"), " ".join(map(str, start)))
            self.same(desk.say("bundles"), " ".join("+".join(map(str, bundle)) for bundle in finest(store)))
            self.same(desk.say("joined"), "yes" if is_joined(store) else "no")
            other = Cache(store, start)
            for question in some_questions(store):
                question = tuple(answer % 10000 for answer in question)
                plan = chance.choice([lot for lot in reference.lots(store.key_count)[-9:] + [tuple(range(store.key_count))]
                                      if tells(store, question, lot)])
                command = " ".join(["ask", *map(str, question), "/", *map(str, plan)])
                self.same(desk.say(command), str(other.ask(question, plan)))
                state = chance.choice(store.states)
                self.same(desk.say(" ".join(["change", *map(str, state)])), "ok")
                other.change(state)
                self.same((desk.cache.state(), desk.cache.kept(), len(desk.cache)), (other.state(), other.kept(), len(other)))
                self.same((desk.say("kept"), desk.say("found")), (str(len(other.kept())), str(other.found())))

    def test_what_is_no_text(self):
        for desk in (Desk(), self.said(SQUARE)):
            for value in no_sequences() + [["state"], ("state",), b"state", [], ()]:
                if not (isinstance(value, str) and value):
                    self.misses(desk, value)

    def test_words_and_spaces(self):
        desk = self.said(SQUARE)
        for command in ("state", "ask 1 2 3 4 / 0 1", "change 1 1", "undo", "found", "kept", "bundles", "joined", SUMS):
            for wrong in (command + " ", " " + command, command + "\n", "\n" + command, command + "\t", command + " \n", command + "\r",
                          command.upper(), command[:-1] + "x", command + " x", "x " + command, command + "\x0b", command + "\xa0",
                          command.replace(" ", "  ", 1) if " " in command else command + "  ",
                          command.replace(" ", "\n", 1) if " " in command else command + "\n\n",
                          command.replace(" ", "\t") if " " in command else command + " \t"):
                self.misses(desk, wrong)
            self.misses(Desk(), command + " ")
        for command in ("", " ", "  ", "\n", "/", "0", "ok", "stores", "State", "undo undo", "state 0", "found 1", "kept /", "bundles 0 1",
                        "joined yes", "undo 1", "ask/", "state/", "nothing", "cache", "say state"):
            self.misses(desk, command)
            self.misses(Desk(), command)

    def test_numbers(self):
        desk = self.said("store 1 9999 / 7 9998")
        for word in ("00", "01", "007", "10000", "00000", "99999", "-1", "+1", "1.0", "1_0", "0x1", "one", "\u0661", "\xb2", "1\n", "",
                     "1e3", "True", " 1", "/"):
            for command in ("change {}", "ask {} 3 / 0", "ask 3 {} / 0", "ask 3 4 / {}", "store {} 3 / 0", "store 1 {} / 0",
                            "store 1 3 / {}", "store 1 3 / 0 {}"):
                self.misses(desk, command.format(word))
        self.same(desk.say("ask 9999 0 / 0"), "9999")
        self.same(desk.say("change 9998"), "ok")
        self.same(desk.say("ask 9999 0 / 0"), "0")
        self.fails(desk, InvalidState, 0, "change 9997")

    def test_forms_of_store(self):
        for desk in (Desk(), self.said(SQUARE)):
            for command in ("store", "store /", "store 1", "store 1 2", "store 1 2 /", "store 1 2 0", "store 1 / 0", "store 2 2 / 0 0",
                            "store 2 2 2 / 0", "store 2 2 2 / 0 0 1", "store 2 2 2 2 / 0 0", "store 0 / 0", "store 0 /", "store 0 2 / 0",
                            "store / 0", "store 1 2 / / 0", "store 1 2 / 0 /", "/ store 1 2 / 0", "store 1 2 0 /", "store / 1 2 0",
                            "store 1 2 / 0 x", "store x 2 / 0", "store 1 2 | 0", "store 1 2 // 0", "store 1 2 /0", "store 3 2 2 / 0 0 0"):
                self.misses(desk, command)
            for command, at in (("store 1 0 / 0", 0), ("store 2 2 0 / 0 0", 0), ("store 1 2 / 2", 2), ("store 1 2 / 0 1 2", 4),
                                ("store 2 2 2 / 0 0 0 2", 3), ("store 2 2 2 / 2 0 0 2", 2), ("store 1 0 / 9", 0),
                                ("store 9 1 1 1 1 1 1 1 1 0 / 0 0 0 0 0 0 0 0 0", 0)):
                self.fails(desk, InvalidStore, at, command)

    def test_forms_of_ask_and_change(self):
        desk = self.said(SQUARE)
        for command in ("ask", "ask 1 2 3 4", "ask 1 2 3 4 0", "ask 1 2 3 4 / 0 / 1", "ask / /", "ask 1 2 3 4 //", "ask 1 2 3 4 / x",
                        "ask x 2 3 4 / 0", "ask 1 2 3 4 /0", "/ ask 1 2 3 4", "change", "change 0", "change 0 0 0", "change 0 /",
                        "change / 0 0", "change 0 x", "change 0 0 /"):
            self.misses(desk, command)
        self.fails(desk, InvalidQuestion, 0, "ask /")
        self.fails(desk, InvalidQuestion, 0, "ask / 0")
        self.fails(desk, InvalidQuestion, 0, "ask 1 2 3 / 9")
        self.fails(desk, InvalidQuestion, 0, "ask 1 2 3 4 5 / 0 1")
        self.fails(desk, InvalidLot, 0, "ask 1 2 3 4 / 2")
        self.fails(desk, InvalidLot, 2, "ask 1 2 3 4 / 0 1 0")
        self.fails(desk, Refused, 1, "ask 1 2 3 4 / 0")
        self.fails(desk, Refused, 1, "ask 1 2 3 4 /")
        self.fails(desk, InvalidState, 0, "change 0 2")
        self.fails(self.said(SUMS), InvalidState, 0, "change 0 0")

    def test_commands_that_want_a_cache(self):
        for command in ("ask 1 / 0", "ask /", "change 0", "change", "state", "found", "kept", "bundles", "joined", "undo"):
            self.misses(Desk(), command)
        desk = Desk()
        self.fails(desk, InvalidStore, 0, "store 1 0 / 0")
        self.misses(desk, "undo")

    def test_deeds_on_the_cache_itself(self):
        desk = self.said(SQUARE)
        desk.cache.change((1, 1))
        self.same((desk.say("state"), desk.say("undo"), desk.say("state")), ("1 1", "ok", "0 1"))

    def test_two_desks(self):
        one, other = self.said(SQUARE), self.said(SUMS)
        one.say("change 1 1")
        self.same((one.say("state"), other.say("state"), other.say("undo")), ("1 1", "1 1", "nothing"))


if __name__ == "__main__":
    unittest.main()
