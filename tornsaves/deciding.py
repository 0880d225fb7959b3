"""The decision whether a plan is sufficient, and what a crash costs."""

from tornsaves.errors import InvalidNumber, NotInput
from tornsaves.evidence import Evidence
from tornsaves.plans import check_plan
from tornsaves.programs import check_program, is_input, is_number
from tornsaves.searching import Judge, Paths, Search

MOST_INPUTS = 4
MOST_LOSS = 1000000


def check_inputs(program, inputs):
    """Raises NotInput if a value is not a list or tuple of 1 to 4 different inputs."""
    if not isinstance(inputs, (list, tuple)) or not 1 <= len(inputs) <= MOST_INPUTS:
        raise NotInput("not a list of 1 to 4 inputs")
    if not all([is_input(program, value) for value in inputs]) or len(set(inputs)) != len(inputs):
        raise NotInput("not different inputs of the program")


def check_loss(loss):
    """Raises InvalidNumber if a value is not a loss."""
    if loss is not None and not is_number(loss, MOST_LOSS):
        raise InvalidNumber("not an integer from 0 to 1000000")


def _check(program, plan, inputs, loss):
    check_program(program)
    check_plan(program, plan)
    check_inputs(program, inputs)
    check_loss(loss)


def paths_of(program, plan):
    """The paths of a program between the saves at which a plan writes groups."""
    return Paths(program, plan[0] if plan[1] else ())


def decided(paths, groups, inputs, loss):
    """The decision for groups that are written at the saves of the paths."""
    searches = [Search(paths, groups, value, loss) for value in inputs]
    failed = [search for search in searches if search.bad is not None]
    if not failed:
        return Sufficient([sorted(list(search.origins)) for search in searches])
    shortest = min(failed, key=lambda search: len(search.bad))
    return Insufficient(shortest.value, shortest.bad)


def decide(program, plan, inputs, *, loss=None):
    """A Sufficient or an Insufficient: whether the result is right after any crashes, and none costs too much."""
    _check(program, plan, inputs, loss)
    return decided(paths_of(program, plan), plan[1], inputs, loss)


def loss_of(program, plan, inputs):
    """The greatest cost of a crash, or None if the plan is not sufficient."""
    _check(program, plan, inputs, None)
    paths = paths_of(program, plan)
    searches = [Search(paths, plan[1], value, None) for value in inputs]
    if not all([search.bad is None for search in searches]):
        return None
    return max([search.worst for search in searches])


class Sufficient(Evidence):
    """The plan is sufficient: for each input, all stores that can be reached."""

    NAME = "sufficient"

    def __init__(self, stores):
        self.stores = [list(reached) for reached in stores]

    @property
    def fields(self):
        """The list of the fields, in the order of the parameters of the class."""
        return [[list(reached) for reached in self.stores]]

    def is_correct(self, program, plan, inputs, *, loss=None):
        """Whether the current fields are a correct result of `decide`."""
        return self == decide(program, plan, inputs, loss=loss)


class Insufficient(Evidence):
    """The plan is not sufficient: an input, and the crashes of a bad run from it."""

    NAME = "insufficient"

    def __init__(self, value, crashes):
        self.value = value
        self.crashes = list(crashes)

    @property
    def fields(self):
        """The list of the fields, in the order of the parameters of the class."""
        return [self.value, list(self.crashes)]

    def is_correct(self, program, plan, inputs, *, loss=None):
        """Whether the current fields are a correct result of `decide`."""
        _check(program, plan, inputs, loss)
        paths = paths_of(program, plan)
        found = decided(paths, plan[1], inputs, loss)
        if isinstance(found, Sufficient) or len(found.crashes) != len(self.crashes) or self.value not in inputs:
            return False
        return Judge(paths, plan[1], loss).is_bad(self.value, self.crashes)
