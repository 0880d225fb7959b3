"""Programs: their form, their stores, and their runs without crashes."""

from tornsaves.errors import InvalidProgram, InvalidStore

LETTERS = "abcdefghijklmnopqrstuvwxyz"
MOST_LETTERS = 8
MOST_VARIABLES = 4
MOST_STEPS = 16
MOST_SAVES = 3
MOST_VALUE = 7
FORMS = {
    "set": ("variable", "value"),
    "copy": ("variable", "variable"),
    "add": ("variable", "variable", "variable"),
    "sub": ("variable", "variable", "variable"),
    "less": ("variable", "variable", "variable"),
    "if": ("variable", "step"),
    "go": ("step",),
    "save": (),
    "stop": ("variable",),
}


def is_number(value, most):
    """Whether a value of any kind is an integer from 0 to a greatest one."""
    return isinstance(value, int) and not isinstance(value, bool) and 0 <= value <= most


def is_program(value):
    """Whether a value of any kind is a program."""
    if not isinstance(value, tuple) or len(value) != 2:
        return False
    variables, steps = value
    return _are_variables(variables) and _are_steps(steps, variables)


def _are_variables(value):
    if not isinstance(value, tuple) or not 1 <= len(value) <= MOST_VARIABLES:
        return False
    return all([is_name(name) for name in value]) and len(set(value)) == len(value)


def is_name(value):
    """Whether a value of any kind is a name of a variable."""
    if not isinstance(value, str) or not 1 <= len(value) <= MOST_LETTERS:
        return False
    return all([letter in LETTERS for letter in value])


def _are_steps(value, variables):
    if not isinstance(value, tuple) or not 1 <= len(value) <= MOST_STEPS:
        return False
    if not all([_is_step(step, variables, len(value)) for step in value]):
        return False
    return len(saves_among(value)) <= MOST_SAVES and value[-1][0] in ("go", "stop")


def _is_step(value, variables, many):
    if not isinstance(value, tuple) or not value or not isinstance(value[0], str):
        return False
    form = FORMS.get(value[0])
    if form is None or len(value) != len(form) + 1:
        return False
    return all([_fits(part, kind, variables, many) for part, kind in zip(value[1:], form)])


def _fits(part, kind, variables, many):
    if kind == "variable":
        return isinstance(part, str) and part in variables
    return is_number(part, MOST_VALUE if kind == "value" else many - 1)


def check_program(program):
    """Raises InvalidProgram if a value is not a program."""
    if not is_program(program):
        raise InvalidProgram("not a program")


def saves_among(steps):
    """The ascending list of the indices of `save` steps."""
    return [k for k, step in enumerate(steps) if step[0] == "save"]


def save_steps(program):
    """The ascending list of the indices of the `save` steps of a program."""
    check_program(program)
    return saves_among(program[1])


def is_store(program, value):
    """Whether a value of any kind is a store of a program."""
    if not isinstance(value, tuple) or len(value) != len(program[0]):
        return False
    return all([is_number(part, MOST_VALUE) for part in value])


def check_store(program, store):
    """Raises InvalidStore if a value is not a store of a program."""
    if not is_store(program, store):
        raise InvalidStore("not a store of the program")


def is_input(program, value):
    """Whether a value of any kind is an input of a program."""
    return is_store(program, value) and run_from(program, 0, value) is not None


def is_stop(program, step):
    """Whether the step with an index is a `stop`."""
    return program[1][step][0] == "stop"


def stop_value(program, step, values):
    """The result of the `stop` with an index."""
    return values[program[0].index(program[1][step][1])]


def stepped(program, step, values):
    """The index of the next step, and the values, after a step that is not a `stop`."""
    variables, steps = program
    word = steps[step][0]
    if word == "go":
        return steps[step][1], values
    if word == "save":
        return step + 1, values
    place = variables.index(steps[step][1])
    if word == "if":
        return (step + 1 if values[place] == 0 else steps[step][2]), values
    assigned = _assigned(steps[step], variables, values)
    return step + 1, values[:place] + (assigned,) + values[place + 1:]


def _assigned(step, variables, values):
    word = step[0]
    if word == "set":
        return step[2]
    left = values[variables.index(step[2])]
    if word == "copy":
        return left
    right = values[variables.index(step[3])]
    if word == "add":
        return (left + right) & MOST_VALUE
    if word == "sub":
        return (left - right) & MOST_VALUE
    return 1 if left < right else 0


def run_from(program, step, values):
    """The result and the length of the plain run from any step on, or None if it does not stop."""
    seen = set()
    while not is_stop(program, step):
        # The same step with the same values again: from here on the run repeats itself.
        if (step, values) in seen:
            return None
        seen.add((step, values))
        step, values = stepped(program, step, values)
    return stop_value(program, step, values), len(seen) + 1


def plain(program, store):
    """The result and the length of the plain run from a store, or None if it does not stop."""
    check_program(program)
    check_store(program, store)
    return run_from(program, 0, store)
