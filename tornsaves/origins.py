"""The inputs from which a plan can reach a store, and the crashes on the way."""

from tornsaves.deciding import check_inputs
from tornsaves.plans import check_plan
from tornsaves.programs import check_program, check_store, is_stop, stepped
from tornsaves.runs import overwritten
from tornsaves.searching import crashes_up_to


class Ways:
    """The way of a program from any step and values to the next of the saves with some indices.

    Each is computed once, as many runs pass through the same steps with the same values.
    """

    def __init__(self, program, saves):
        self.program = program
        self.saves = saves
        self.known = {}

    def next_save(self, place):
        """For a pair of a step and values: the number of steps up to the next save, and the save, such a pair, too.

        The answer is None if no save follows.
        """
        path = {}
        while place not in self.known and place not in path and not self._is_end(place[0]):
            path[place] = True
            place = stepped(self.program, place[0], place[1])
        # On a way that goes round for ever, without a save, nothing is known.
        found = (0, place) if place[0] in self.saves else self.known.get(place)
        for earlier in reversed(list(path)):
            if found is not None:
                found = (found[0] + 1, found[1])
            self.known[earlier] = found
        return found

    def _is_end(self, step):
        return step in self.saves or is_stop(self.program, step)


class Reach:
    """The stores that a plan reaches from an input, by runs with fewer crashes first, up to a given store.

    `before` has, for each of them, the preceding store and the number of moves up to the crash. The
    stores are found in the order of the first ones of the lists that describe such runs.
    """

    def __init__(self, ways, groups, value, target):
        self.ways = ways
        self.groups = groups
        self.before = {value: None}
        self.passed = {}
        self._explore(value, target)

    def _explore(self, value, target):
        stores = [value]
        at = 0
        while at < len(stores) and target not in self.before:
            for moves, reached in self._writes_from(stores[at]):
                if reached not in self.before:
                    self.before[reached] = (stores[at], moves)
                    stores.append(reached)
            at += 1

    def _writes_from(self, store):
        """The pairs of a number of moves and the saved store after them, for each group written in a run.

        What follows a save depends only on the values there, as the variables that are not saved are
        those of the input in all stores. So each save needs to be passed only once.
        """
        found = []
        moves = 0
        way = self.ways.next_save((0, store))
        while way is not None:
            moves += way[0]
            step, values = way[1]
            for group in self.groups:
                moves += 1
                store = overwritten(self.ways.program[0], store, values, group)
                found.append((moves, store))
            if (step, values) in self.passed:
                return found
            self.passed[(step, values)] = True
            way = self.ways.next_save((step + 1, values))
        return found


def origins(program, plan, inputs, store):
    """The list of pairs of an input from which a plan can reach a store, and the first shortest list of crashes."""
    check_program(program)
    check_plan(program, plan)
    check_inputs(program, inputs)
    check_store(program, store)
    ways = Ways(program, plan[0])
    searches = [(value, Reach(ways, plan[1], value, store)) for value in inputs]
    return [(value, crashes_up_to(reach.before, store)) for value, reach in searches if store in reach.before]
