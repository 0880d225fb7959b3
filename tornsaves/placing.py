"""Where saves are inserted into a program that has none."""

from tornsaves.deciding import check_inputs, check_loss, greatest_cost
from tornsaves.errors import InvalidPositions, InvalidProgram, TooLarge
from tornsaves.evidence import Evidence
from tornsaves.plans import check_plan
from tornsaves.programs import check_program, is_number, saves_among

MOST_BARE_STEPS = 14
MOST_POSITIONS = 2


def _check_bare(program):
    """Raises InvalidProgram or TooLarge if a program can't be extended by saves."""
    check_program(program)
    if saves_among(program[1]):
        raise InvalidProgram("the program has saves")
    if len(program[1]) > MOST_BARE_STEPS:
        raise TooLarge("more than 14 steps")


def _are_positions(program, value):
    if len(value) > MOST_POSITIONS or not all([is_number(at, len(program[1]) - 1) for at in value]):
        return False
    return list(value) == sorted(set(value))


def _moved_on(step, positions):
    """A step whose jump leads where it led before, or to the save that stands there now."""
    if step[0] not in ("if", "go"):
        return step
    return step[:-1] + (step[-1] + len([at for at in positions if at < step[-1]]),)


def _with_saves(program, positions):
    variables, steps = program
    rows = []
    for k, step in enumerate(steps):
        if k in positions:
            rows.append(("save",))
        rows.append(_moved_on(step, positions))
    return variables, tuple(rows)


def extended(program, *positions):
    """The program with a save before each of the steps at the positions."""
    _check_bare(program)
    if not _are_positions(program, positions):
        raise InvalidPositions("not at most 2 indices of steps in ascending order")
    return _with_saves(program, positions)


def _choices(many):
    """All positions in a program with this number of steps: fewer ones first, then as tuples."""
    pairs = [(low, high) for low in range(many) for high in range(low + 1, many)]
    return [()] + [(at,) for at in range(many)] + pairs


def best_positions(program, groups, inputs, *, loss=None):
    """The Placed with the fewest positions that suffice, or None if there are none."""
    _check_bare(program)
    check_plan(program, ((), groups))
    check_inputs(program, inputs)
    check_loss(loss)
    for positions in _choices(len(program[1])):
        longer = _with_saves(program, positions)
        worst = greatest_cost(longer, (tuple(saves_among(longer[1])), groups), inputs, loss)
        if worst is not None:
            return Placed(positions, worst)
    return None


class Placed(Evidence):
    """The best positions of saves, and the greatest cost of a crash with them."""

    NAME = "placed"

    def __init__(self, positions, loss):
        self.positions = positions
        self.loss = loss

    @property
    def fields(self):
        """The list of the fields, in the order of the parameters of the class."""
        return [self.positions, self.loss]
