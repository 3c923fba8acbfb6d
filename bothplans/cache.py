"""A cache: it keeps answers as long as nothing is changed that they rest on."""

from bothplans.bundles import finest
from bothplans.errors import Refused
from bothplans.questions import checked_question
from bothplans.stores import checked_lot, checked_state, differing, place_of
from bothplans.telling import unlike_pair


class Cache:
    """Stands in a state of a store, and keeps answers with the lots that they are held by."""

    def __init__(self, store, state):
        self.store = store
        # The state, a dict of the held lot and the answer of each kept question, and how many answers were found anew.
        self._now = (checked_state(store, state), {}, 0)
        self._past = []
        self._tying = finest(store)

    def __len__(self):
        return len(self._past)

    def state(self):
        """The state in which the cache stands."""
        return self._now[0]

    def kept(self):
        """Triples of each kept question, its held lot and its answer."""
        return tuple(sorted([(question,) + entry for question, entry in self._now[1].items()]))

    def found(self):
        """How many answers had to be found anew."""
        return self._now[2]

    def ask(self, question, plan):
        """The answer in the state, found with a plan that tells the question; Refused(1) if it does not."""
        asked = checked_question(self.store, question)
        keys = checked_lot(self.store, plan)
        if unlike_pair(self.store, asked, keys) is not None:
            raise Refused(1)
        state, kept, found = self._now
        lot = self._widened(keys)
        if asked in kept:
            held, answer = kept[asked]
            lot = tuple([key for key in held if key in lot])
        else:
            answer = asked[place_of(self.store, state)]
            found = found + 1
        after = {other: entry for other, entry in kept.items()}
        after[asked] = (lot, answer)
        self._do((state, after, found))
        return answer

    def _widened(self, lot):
        """The keys of all bundles with a key of a lot."""
        touched = [bundle for bundle in self._tying if any([key in lot for key in bundle])]
        return tuple(sorted([key for bundle in touched for key in bundle]))

    def change(self, state):
        """Stands in another state, and drops the questions that are held by a key with another value there."""
        after = checked_state(self.store, state)
        before, kept, found = self._now
        changed = differing(before, after)
        left = {question: entry for question, entry in kept.items() if not _has_some(entry[0], changed)}
        self._do((after, left, found))

    def _do(self, after):
        self._past.append(self._now)
        self._now = after

    def undo(self):
        """Undoes the last deed; False if there is none."""
        if not self._past:
            return False
        self._now = self._past.pop()
        return True

    def within(self, work):
        """What some work with this cache returns; all deeds done in it are undone, also if it raises an error."""
        now, past = self._now, self._past
        # The work gets a list of its own: so the former one is as it was, whatever is done and undone.
        self._past = list(past)
        try:
            return work(self)
        finally:
            self._now, self._past = now, past


def _has_some(lot, keys):
    return any([key in lot for key in keys])
