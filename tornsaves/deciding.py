"""The decision whether a plan is sufficient, and what a crash costs."""

from tornsaves.errors import InvalidNumber, NotInput
from tornsaves.evidence import Evidence
from tornsaves.plans import check_plan
from tornsaves.programs import check_program, is_input, is_number
from tornsaves.searching import Judge, Paths, Search

MOST_INPUTS = 4
MOST_LOSS = 1000000


def check_inputs(program, inputs):
    """Raises NotInput if a value is not a list or tuple of 1 to 4 different inputs."""
    if not isinstance(inputs, (list, tuple)) or not 1 <= len(inputs) <= MOST_INPUTS:
        raise NotInput("not a list of 1 to 4 inputs")
    if not all([is_input(program, value) for value in inputs]) or len(set(inputs)) != len(inputs):
        raise NotInput("not different inputs of the program")


def check_loss(loss):
    """Raises InvalidNumber if a value is not a loss."""
    if loss is not None and not is_number(loss, MOST_LOSS):
        raise InvalidNumber("not an integer from 0 to 1000000")


def _check(program, plan, inputs, loss):
    check_program(program)
    check_plan(program, plan)
    check_inputs(program, inputs)
    check_loss(loss)


def paths_of(program, plan):
    """The paths of a program between the saves at which a plan writes groups."""
    return Paths(program, plan[0] if plan[1] else ())


def _searches(paths, groups, inputs, loss):
    return [Search(paths, groups, value, loss) for value in inputs]


def _shortest_failure(searches):
    """The search with a bad run that has the fewest crashes, or None."""
    failed = [search for search in searches if search.bad is not None]
    return min(failed, key=lambda search: len(search.bad)) if failed else None


def _worst_of(searches):
    """The greatest cost of a crash in searches without a bad run."""
    return max([search.worst for search in searches])


def decided(paths, groups, inputs, loss):
    """The decision for groups that are written at the saves of the paths."""
    searches = _searches(paths, groups, inputs, loss)
    failed = _shortest_failure(searches)
    if failed is None:
        return Sufficient([sorted(list(search.before)) for search in searches])
    return Insufficient(failed.value, failed.bad)


def greatest_cost(program, plan, inputs, loss):
    """The loss of a plan, or None if the plan is not sufficient with a loss."""
    searches = _searches(paths_of(program, plan), plan[1], inputs, loss)
    return _worst_of(searches) if _shortest_failure(searches) is None else None


def decide(program, plan, inputs, *, loss=None):
    """A Sufficient or an Insufficient: whether the result is right after any crashes, and none costs too much."""
    _check(program, plan, inputs, loss)
    return decided(paths_of(program, plan), plan[1], inputs, loss)


def loss_of(program, plan, inputs):
    """The greatest cost of a crash, or None if the plan is not sufficient."""
    _check(program, plan, inputs, None)
    return greatest_cost(program, plan, inputs, None)


class Decisions:
    """The decisions about some plans of a program that save something, or nothing at all, in their order.

    `losses` has the loss of each sufficient plan, `against` a bad run with each other one: a pair
    of an input and a list of numbers.
    """

    def __init__(self, program, plans, inputs, loss):
        self.program = program
        self.inputs = inputs
        self.loss = loss
        self.paths = {}
        self.losses = {}
        self.against = {}
        for plan in plans:
            self._add(plan)

    def _paths_of(self, plan):
        # Plans with the same saves share their paths, whatever their groups.
        if plan[0] not in self.paths:
            self.paths[plan[0]] = Paths(self.program, plan[0])
        return self.paths[plan[0]]

    def _add(self, plan):
        searches = _searches(self._paths_of(plan), plan[1], self.inputs, self.loss)
        failed = _shortest_failure(searches)
        if failed is None:
            self.losses[plan] = _worst_of(searches)
        else:
            self.against[plan] = (failed.value, failed.bad)

    def runs_against(self, plans):
        """A bad run with each of some plans that are not sufficient, without repetitions."""
        runs = []
        for plan in plans:
            if self.against[plan] not in runs:
                runs.append(self.against[plan])
        return runs

    def are_refuted(self, plans, runs):
        """Whether for each of some plans one of some runs from the inputs is bad."""
        return all([Judge(self._paths_of(plan), plan[1], self.loss).is_bad_with_one(runs) for plan in plans])


class Sufficient(Evidence):
    """The plan is sufficient: for each input, all stores that can be reached."""

    NAME = "sufficient"

    def __init__(self, stores):
        self.stores = [list(reached) for reached in stores]

    @property
    def fields(self):
        """The list of the fields, in the order of the parameters of the class."""
        return [[list(reached) for reached in self.stores]]

    def is_correct(self, program, plan, inputs, *, loss=None):
        """Whether the current fields are a correct result of `decide`."""
        return self == decide(program, plan, inputs, loss=loss)


class Insufficient(Evidence):
    """The plan is not sufficient: an input, and the crashes of a bad run from it."""

    NAME = "insufficient"

    def __init__(self, value, crashes):
        self.value = value
        self.crashes = list(crashes)

    @property
    def fields(self):
        """The list of the fields, in the order of the parameters of the class."""
        return [self.value, list(self.crashes)]

    def is_correct(self, program, plan, inputs, *, loss=None):
        """Whether the current fields are a correct result of `decide`."""
        _check(program, plan, inputs, loss)
        paths = paths_of(program, plan)
        found = decided(paths, plan[1], inputs, loss)
        if isinstance(found, Sufficient) or len(found.crashes) != len(self.crashes) or self.value not in inputs:
            return False
        return Judge(paths, plan[1], loss).is_bad(self.value, self.crashes)
