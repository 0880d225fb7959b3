"""Runs with a plan: saves that are written group by group, moves and crashes.

A state is a tuple of the next step, the current values, the saved store, and the number of groups
that have been written at the next step.
"""

from tornsaves.errors import InvalidCrashes, InvalidNumber, NotInput
from tornsaves.plans import check_plan
from tornsaves.programs import check_program, check_store, is_input, is_number, is_stop, stepped

MOST_MOVES = 1000000


def started(store):
    """The state at the beginning of the run from a saved store."""
    return 0, store, store, 0


def overwritten(variables, store, values, group):
    """The saved store after a group has been written."""
    return tuple([new if name in group else old for name, old, new in zip(variables, store, values)])


def moved(program, plan, state):
    """The state after the next move, which is not the `stop`."""
    step, values, store, written = state
    groups = plan[1]
    if step not in plan[0] or not groups:
        following, changed = stepped(program, step, values)
        return following, changed, store, 0
    store = overwritten(program[0], store, values, groups[written])
    if written + 1 < len(groups):
        return step, values, store, written + 1
    return step + 1, values, store, 0


def state_after(program, plan, store, moves):
    """The state after a number of moves of the run from a saved store, or None if it stops before."""
    state = started(store)
    left = moves
    seen = {}
    while left > 0 and not is_stop(program, state[0]):
        step, values, _, written = state
        if (step, values, written) in seen:
            # The second round writes what the first one wrote, so from here on the saved store
            # repeats itself, too, and whole rounds can be left out.
            left = left % (seen[(step, values, written)] - left)
            seen = {}
        else:
            seen[(step, values, written)] = left
            state = moved(program, plan, state)
            left = left - 1
    return state if left == 0 else None


def trace(program, plan, store, *, most=1000):
    """Yields the number of completed steps and the saved store after 0, 1, 2, ... moves, up to the `stop`."""
    check_program(program)
    check_plan(program, plan)
    check_store(program, store)
    if not is_number(most, MOST_MOVES):
        raise InvalidNumber("not an integer from 0 to 1000000")
    state = started(store)
    completed = 0
    for _ in range(most):
        yield (completed, state[2])
        if is_stop(program, state[0]):
            return
        state = moved(program, plan, state)
        if state[3] == 0:
            completed += 1


def check_start(program, plan, value):
    """Raises InvalidProgram, InvalidPlan or NotInput if there is no run with a plan from a value."""
    check_program(program)
    check_plan(program, plan)
    if not is_input(program, value):
        raise NotInput("not an input of the program")


def replay(program, plan, value, crashes):
    """The list of the saved stores at the beginning of a run from an input and after each crash."""
    check_start(program, plan, value)
    if not isinstance(crashes, (list, tuple)):
        raise InvalidCrashes(None)
    stores = [value]
    for index, moves in enumerate(crashes):
        state = state_after(program, plan, stores[-1], moves) if is_number(moves, MOST_MOVES) else None
        if state is None:
            raise InvalidCrashes(index)
        stores.append(state[2])
    return stores
