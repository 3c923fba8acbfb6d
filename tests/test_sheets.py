"""Points [49] and [50]: sheets."""

import copy
import unittest

from bothplans.chains import chain, is_joined
from bothplans.errors import InvalidLot, InvalidQuestion, InvalidState, Refused
from bothplans.knots import finest_paper, tying_fault
from bothplans.least import least_paper
from bothplans.sheets import sheet, sheet_holds, wrong_sheets
from bothplans.stores import Store
from bothplans.telling import fault
from bothplans.torn import torn_plans
from tests import reference
from tests.support import (
    PlanCase, Unfriendly, as_lists, endless_list, full_store, limit_stores, no_entries, no_sequences, small_stores, some_questions,
)

SUMS = Store([3, 3], [(0, 2), (1, 1), (2, 0)])
SQUARE = full_store(2, 2)
ANTI = Store([2, 2], [(0, 1), (1, 0)])
QUESTION = (3, 3, 4, 4)

# One sheet of each kind that holds, and values with which it would not.
RIGHT = {
    "fault": ((SQUARE, QUESTION, (1,)), ((0, 0), (1, 0))),
    "least": ((SQUARE, QUESTION, (0,)), (((0, 1), (1, 0)),)),
    "chain": ((SQUARE, (0, 0), (1, 1)), ((0, 0), (0, 1), (1, 1))),
    "torn": ((SUMS,), ((0, 2), (2, 0), (0,), (1,), (5, 6, 7))),
    "bundles": ((ANTI,), (((0, 1),), ((0, 1, (0, 1), (1, 0)),))),
    "tying": ((ANTI, ((0,), (1,))), ((0,), (1,), (3, 4))),
}
WRONG = {
    "fault": ((0, 0), (0, 1)), "least": ((0, 1), (1, 0)), "chain": ((0, 0), (1, 1)), "torn": ((0, 2), (2, 0), (0,), (0,), (5, 6, 7)),
    "bundles": (((0,), (1,)), ()), "tying": ((0,), (1,), (3, 3)),
}


def made_by(name, question):
    makers = {"fault": fault, "least": least_paper, "chain": chain, "torn": torn_plans, "bundles": finest_paper,
              "tying": tying_fault}
    return makers[name](*question)


def some_sheet_questions(store):
    for question in some_questions(store):
        for lot in reference.lots(store.key_count)[::3]:
            yield "fault", (store, question, lot)
            yield "least", (store, list(question), list(lot))
    for one in store.states[:3]:
        yield "chain", (store, list(one), store.states[-1])
    yield "torn", (store,)
    yield "bundles", (store,)
    for tying in reference.tyings(store.key_count)[::4]:
        yield "tying", (store, as_lists(tying))


class SheetHoldsTest(PlanCase):
    def test_each_kind(self):
        for name, (question, value) in RIGHT.items():
            self.same(sheet_holds((name, question, value)), True)
            self.same(sheet_holds(value=(name, question, value)), True)
            self.same(sheet_holds((name, question, WRONG[name])), False)
            for other in RIGHT:
                if other != name:
                    self.same(sheet_holds((other, question, value)), False)
                    self.same(sheet_holds((name, RIGHT[other][0], value)), False)

    def test_questions_in_lists(self):
        for name, (question, value) in RIGHT.items():
            listed = question[:1] + tuple(as_lists(question[1:]))
            self.same(sheet_holds((name, listed, value)), True)
            self.same(sheet_holds((name, list(question), value)), False)
            self.same(sheet_holds([name, question, value]), False)
            self.same(sheet_holds((name, question, as_lists(value))), False)
            self.same(sheet_holds((name, question, list(value))), False)

    def test_what_is_no_sheet(self):
        for value in no_entries() + [(), ("fault",), ("torn", (SUMS,)), ("torn", (SUMS,), RIGHT["torn"][1], 0), endless_list()]:
            self.same(sheet_holds(value), False)
        for name, (question, value) in RIGHT.items():
            for entry in no_entries() + ["", "Fault", "faults", "torn ", b"torn", ("torn",), ["torn"]]:
                self.same(sheet_holds((entry, question, value)), False)
                self.same(sheet_holds((name, entry, value)), False)
                self.same(sheet_holds((name, question, entry)), False)
                self.same(sheet_holds((name, (entry,) + question[1:], value)) and type(entry) is not Store, False)
                self.same(sheet_holds((name, question + (entry,), value)), False)
            self.same(sheet_holds((name, question[:-1], value)), False)
            self.same(sheet_holds((name, question + question, value)), False)
            for left in ((), (SQUARE,), (SQUARE, None), (SQUARE, None, None)):
                self.same(sheet_holds((name, left, value)), False)

    def test_where_an_error_would_be_raised(self):
        for entry in no_entries():
            self.same(sheet_holds(("fault", (SQUARE, entry, (1,)), RIGHT["fault"][1])), False)
            self.same(sheet_holds(("least", (SQUARE, QUESTION, [0, entry]), RIGHT["least"][1])), False)
            self.same(sheet_holds(("chain", (SQUARE, entry, (1, 1)), RIGHT["chain"][1])), False)
            self.same(sheet_holds(("chain", (SQUARE, (0, 0), entry), RIGHT["chain"][1])), False)
            self.same(sheet_holds(("tying", (ANTI, entry), RIGHT["tying"][1])), False)
            self.same(sheet_holds(("tying", (ANTI, [[0], [1], entry]), RIGHT["tying"][1])), False)


class SheetTest(PlanCase):
    def test_each_kind(self):
        for name, (question, _) in RIGHT.items():
            self.made(name, question)
            self.same(plain(sheet(question=question, name=name)), plain(sheet(name, question)))

    def made(self, name, question):
        told = sheet(name, question)
        self.assertEqual((type(told), len(told)), (tuple, 3))
        self.same(plain(told[:2]), plain((name, question)))
        self.same(sheet_holds(told), True)
        return told

    def test_many_questions(self):
        for store in list(small_stores())[::3]:
            for name, question in some_sheet_questions(store):
                if made_by(name, question) is None:
                    self.refuses(Refused, 2, sheet, name, question)
                else:
                    self.made(name, question)

    def test_lists_are_copied(self):
        for name, (question, _) in RIGHT.items():
            listed = question[:1] + tuple(as_lists(question[1:]))
            kept = copy.deepcopy(listed[1:])
            told = self.made(name, listed)
            for entry in listed[1:]:
                for inner in entry:
                    if isinstance(inner, list):
                        inner.append(7)
                entry.append(7)
            self.same(told[1][1:], kept)
            self.same(sheet_holds(told), True)
            self.same(sheet_holds((name, listed, told[2])), len(listed) == 1)
        told = sheet("tying", (ANTI, [(0,), [1]]))
        self.same(told[1][1], [(0,), [1]])

    def test_what_is_no_kind(self):
        for entry in no_entries() + ["", "Fault", "faults", "torn ", b"torn", ("torn",), ["torn"]]:
            self.refuses(Refused, 0, sheet, entry, (SUMS,))
            self.refuses(Refused, 0, sheet, entry, None)

    def test_what_is_no_question_for_it(self):
        for name, (question, _) in RIGHT.items():
            for entry in no_entries():
                if type(entry) is not Store:
                    self.refuses(Refused, 1, sheet, name, entry)
                    self.refuses(Refused, 1, sheet, name, (entry,) + question[1:])
                self.refuses(Refused, 1, sheet, name, question + (entry,))
            for value in ((), question[:-1], list(question), question + question, (None,) * len(question), SUMS):
                self.refuses(Refused, 1, sheet, name, value)

    def test_errors_of_what_makes_it(self):
        self.refuses(InvalidQuestion, 0, sheet, "fault", (SQUARE, None, None))
        self.refuses(InvalidLot, 1, sheet, "fault", (SQUARE, [1, 2, 3, 4], [0, 0]))
        self.refuses(InvalidLot, 0, sheet, "least", (SQUARE, QUESTION, 7))
        self.refuses(InvalidState, 0, sheet, "chain", (SQUARE, (0, 2), None))
        self.refuses(InvalidState, 1, sheet, "chain", (SQUARE, (0, 1), endless_list()))
        self.refuses(InvalidLot, 1, sheet, "tying", (ANTI, [[0]]))
        self.refuses(InvalidLot, 0, sheet, "tying", (ANTI, Unfriendly()))

    def test_where_there_is_none(self):
        for name, question in (("fault", (SQUARE, QUESTION, [0])), ("least", (SQUARE, QUESTION, [1])), ("torn", (SQUARE,)),
                               ("least", (SQUARE, QUESTION, [0, 1])), ("chain", (SUMS, (0, 2), (2, 0))),
                               ("tying", (ANTI, [[0, 1]])), ("tying", (SQUARE, [[0], [1]]))):
            self.refuses(Refused, 2, sheet, name, question)

    def test_at_the_limits(self):
        for store in limit_stores():
            question = tuple(range(len(store.states)))
            self.made("bundles", (store,))
            self.made("fault", (store, list(question), []))
            self.made("chain", (store, store.states[0], list(store.states[0])))
            if is_joined(store):
                self.refuses(Refused, 2, sheet, "torn", (store,))
            else:
                self.made("torn", (store,))
                self.made("tying", (store, [[key] for key in range(8)]))


class WrongSheetsTest(PlanCase):
    def test_those_that_do_not_hold(self):
        right = [(name, question, value) for name, (question, value) in RIGHT.items()]
        wrong = [(name, question, WRONG[name]) for name, (question, _) in RIGHT.items()]
        self.same(wrong_sheets(right), ())
        self.same(wrong_sheets(values=tuple(wrong)), (0, 1, 2, 3, 4, 5))
        mixed = [sheet for pair in zip(right, wrong) for sheet in pair]
        self.same(wrong_sheets(mixed + [None]), (1, 3, 5, 7, 9, 11, 12))
        self.same(wrong_sheets([]), ())
        entries = no_entries()
        self.same(wrong_sheets(entries), tuple(range(len(entries))))

    def test_no_sequence(self):
        for value in no_sequences():
            self.refuses(InvalidQuestion, 0, wrong_sheets, value)


def plain(value):
    if isinstance(value, Store):
        return "Store", value.sizes, value.states
    if isinstance(value, (list, tuple)):
        return type(value)(plain(entry) for entry in value)
    return value


if __name__ == "__main__":
    unittest.main()
