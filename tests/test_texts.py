"""Point [9]: texts of stores."""

import unittest

from bothplans.errors import InvalidText
from bothplans.stores import Store
from bothplans.texts import read_store, store_text
from tests.support import PlanCase, limit_stores, no_sequences, small_stores

SUMS = Store([3, 3], [(0, 2), (1, 1), (2, 0)])


class TextTest(PlanCase):
    def test_a_text(self):
        self.same(store_text(SUMS), "store 3 3\n0 2\n1 1\n2 0")
        self.same(store_text(store=Store([1], [[0]])), "store 1\n0")
        self.same(store_text(Store([100, 20], [(99, 10)])), "store 100 20\n99 10")

    def test_texts_are_read_again(self):
        for store in list(small_stores()) + limit_stores() + [Store([99, 11], [(98, 10), (9, 0), (10, 0)])]:
            text = store_text(store)
            again = read_store(text)
            self.assertEqual(again, store)
            self.same(again.states, store.states)
            self.same(store_text(again), text)
        self.assertEqual(read_store(text="store 2\n1"), Store([2], [[1]]))

    def test_no_string(self):
        for value in no_sequences() + [[], (), ["store 2", "0"], b"store 2\n0"]:
            if not isinstance(value, str):
                self.refuses(InvalidText, 0, read_store, value)

    def test_a_first_line_that_is_not_as_told(self):
        for line in ("", " ", "store", "store ", "store  2", " store 2", "store 2 ", "Store 2", "stores 2", "2", "store2",
                     "store 0", "store 2 0", "store 02", "store 100", "store -1", "store +1", "store 1.0", "store x",
                     "store\t2", "store 2\r", "store \u0662", "store \u00b2", "store 2,2", "store 2_0", "store 1 x", "store store 2"):
            self.refuses(InvalidText, 0, read_store, line)
            self.refuses(InvalidText, 0, read_store, line + "\n0")
            self.refuses(InvalidText, 0, read_store, line + "\nx")

    def test_a_line_that_is_no_state(self):
        for line in ("", " ", "1", "1 1 1", "1  1", " 1 1", "1 1 ", "01 1", "1 00", "3 0", "0 3", "100 1", "-1 1", "+1 1",
                     "1 x", "1,1", "1\t1", "1 1\r", "\u0661 1", "1 \u00b9", "True 1", "1_0 1", "store 3 3"):
            self.refuses(InvalidText, 1, read_store, "store 3 3\n" + line)
            self.refuses(InvalidText, 2, read_store, "store 3 3\n0 2\n" + line)
            self.refuses(InvalidText, 2, read_store, "store 3 3\n0 2\n" + line + "\nx\n")

    def test_states_that_do_not_ascend(self):
        self.refuses(InvalidText, 2, read_store, "store 3 3\n1 1\n0 2")
        self.refuses(InvalidText, 2, read_store, "store 3 3\n1 1\n1 1")
        self.refuses(InvalidText, 3, read_store, "store 3 3\n0 2\n1 1\n1 0\n2 0")
        self.refuses(InvalidText, 3, read_store, "store 3 3\n0 0\n2 0\n1 1\n0 x")

    def test_numbers_are_compared_as_numbers(self):
        self.assertEqual(read_store("store 12\n9\n10"), Store([12], [[9], [10]]))
        self.refuses(InvalidText, 2, read_store, "store 12\n10\n9")

    def test_no_state_at_all(self):
        self.refuses(InvalidText, 1, read_store, "store 3 3")
        self.refuses(InvalidText, 1, read_store, "store 1")

    def test_no_newline_at_the_end(self):
        self.refuses(InvalidText, 1, read_store, "store 3 3\n")
        self.refuses(InvalidText, 2, read_store, "store 3 3\n0 2\n")
        self.refuses(InvalidText, 0, read_store, "\nstore 3 3\n0 2")
        self.refuses(InvalidText, 0, read_store, "store 3 3\r\n0 2")

    def test_only_a_newline_parts_lines(self):
        for sign in ("\x0b", "\x0c", "\u2028", "\x85", "\r"):
            self.refuses(InvalidText, 0, read_store, "store 3 3" + sign + "0 2")
            self.refuses(InvalidText, 1, read_store, "store 3 3\n0 2" + sign + "1 1")


if __name__ == "__main__":
    unittest.main()
