"""The search through all runs of a plan: stores that can be reached, costs of crashes, and bad runs."""

from tornsaves.programs import is_number, is_stop, stepped, stop_value
from tornsaves.runs import MOST_MOVES, overwritten, state_after

ENDLESS = (None, None, None)


class Paths:
    """Where the run of a program leads from any step and values, past the saves with some indices.

    Everything is computed once, as many runs pass through the same steps with the same values.
    """

    def __init__(self, program, saves):
        self.program = program
        self.saves = saves
        self.known = {}

    def ahead(self, place):
        """For a pair of a step and values: the length and the result of the run, and its next save.

        The next save is such a pair, too, or None if there is none. All three are None if the run
        does not stop.
        """
        if place not in self.known:
            self._follow(place)
        return self.known[place]

    def _follow(self, place):
        path = {}
        while place not in self.known and place not in path and not is_stop(self.program, place[0]):
            path[place] = True
            place = stepped(self.program, place[0], place[1])
        if is_stop(self.program, place[0]):
            self.known[place] = (1, stop_value(self.program, place[0], place[1]), None)
        found = ENDLESS if place in path else self.known[place]
        for earlier in reversed(list(path)):
            length, result, save = found
            if length is not None:
                found = (length + 1, result, earlier if earlier[0] in self.saves else save)
            self.known[earlier] = found

    def is_wrong(self, store, value):
        """Whether the run from a saved store does not stop, or not with the result of an input."""
        return self.ahead((0, store))[1] != self.ahead((0, value))[1]

    def crash_cost(self, store, left):
        """The cost of a crash with a saved store and a number of steps still to be executed."""
        return self.ahead((0, store))[0] - left

    def stretches(self, groups, store, passed):
        """The stretches of a run from a saved store in which the saved store does not change.

        The run stops. Each stretch is a triple: the number of moves up to its last crash, the saved
        store, and the number of steps that are still to be executed at this crash. The list ends at
        the first save that is among the passed ones, a dict to which the saves before it are added.
        """
        found = []
        moves = 0
        length, _, save = self.ahead((0, store))
        while save is not None:
            left = self.ahead(save)[0]
            moves += length - left
            for group in groups:
                found.append((moves, store, left))
                moves += 1
                store = overwritten(self.program[0], store, save[1], group)
            if save in passed:
                return found
            passed[save] = True
            length, _, save = self.ahead((save[0] + 1, save[1]))
        found.append((moves + length - 1, store, 1))
        return found


def crashes_up_to(before, store):
    """The list of the numbers of moves before each crash, up to a store.

    The dict has, for each store, the preceding store and the number of moves up to the crash, or None
    for the first store.
    """
    crashes = []
    while before[store] is not None:
        store, moves = before[store]
        crashes.append(moves)
    return crashes[::-1]


class Search:
    """All runs of a plan from an input, those with fewer crashes first, up to the first bad one.

    `before` has, for each store that has been reached, the preceding store and the number of moves
    up to the crash; `worst` is the greatest cost of a crash; `bad` is the list of numbers of the bad
    run, or None.
    """

    def __init__(self, paths, groups, value, loss):
        self.paths = paths
        self.groups = groups
        self.value = value
        self.loss = loss
        self.before = {value: None}
        self.passed = {}
        self.worst = 0
        self.bad = None
        self._explore()

    def _explore(self):
        stores = [self.value]
        at = 0
        while at < len(stores) and self.bad is None:
            stores.extend(self._found_from(stores[at]))
            at += 1

    def _found_from(self, store):
        """The list of the stores that are reached for the first time, by a crash in the run from a store.

        What follows a save depends only on the values there, as the variables that are not saved are
        those of the input in all stores. So each save needs to be passed only once. The last crash
        in a stretch costs most.
        """
        found = []
        for moves, reached, left in self.paths.stretches(self.groups, store, self.passed):
            if self._is_bad(reached, left):
                self.bad = crashes_up_to(self.before, store) + [moves]
                return []
            self.worst = max(self.worst, self.paths.crash_cost(reached, left))
            if reached not in self.before:
                self.before[reached] = (store, moves)
                found.append(reached)
        return found

    def _is_bad(self, reached, left):
        if self.paths.is_wrong(reached, self.value):
            return True
        return self.loss is not None and self.paths.crash_cost(reached, left) > self.loss


class Judge:
    """Tells which lists of numbers describe a bad run of a plan."""

    def __init__(self, paths, groups, loss):
        self.paths = paths
        self.groups = groups
        self.loss = loss
        self.known = {}

    def is_bad(self, value, crashes):
        """Whether a list of integers describes a bad run from an input."""
        store, left = value, None
        for moves in crashes:
            crashed = self._crashed(store, moves) if is_number(moves, MOST_MOVES) else None
            if crashed is None:
                return False
            store, left = crashed
        if self.paths.is_wrong(store, value):
            return True
        return self.loss is not None and left is not None and self.paths.crash_cost(store, left) > self.loss

    def is_bad_with_one(self, runs):
        """Whether one of some runs from inputs is bad."""
        for value, crashes in runs:
            if self.is_bad(value, crashes):
                return True
        return False

    def _crashed(self, store, moves):
        """The saved store and the steps still to be executed at a crash, or None if it is not possible.

        The steps are None if the run would not have stopped.
        """
        if self.paths.ahead((0, store))[0] is None:
            return state_after(self.paths.program, (self.paths.saves, self.groups), store, moves)[2], None
        if store not in self.known:
            self.known[store] = self.paths.stretches(self.groups, store, {})
        for last, reached, left in self.known[store]:
            if moves <= last:
                return reached, left + last - moves
        return None
