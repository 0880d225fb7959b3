"""Runs that proceed move by move, and crash when they are told to."""

from tornsaves.errors import InvalidMove
from tornsaves.programs import is_stop, stop_value
from tornsaves.runs import check_start, moved, replay, started

MOVE = "move"
CRASH = "crash"


def _shown(situation):
    """What an execution shows of a state: the number of written groups only during a `save`."""
    return situation if situation[3] != 0 else situation[:3]


def _after_event(program, plan, situation, event):
    """The state after a move, also the `stop`, or a crash; after the `stop`, the step is None."""
    if not isinstance(event, str) or event not in (MOVE, CRASH):
        raise InvalidMove("neither a move nor a crash")
    if situation[0] is None:
        raise InvalidMove("the run has stopped")
    if event == CRASH:
        return started(situation[2])
    if is_stop(program, situation[0]):
        return (None,) + situation[1:]
    return moved(program, plan, situation)


class Execution:
    """A run of a program with a plan from an input, at its beginning."""

    def __init__(self, program, plan, value):
        check_start(program, plan, value)
        self.program = program
        self.plan = plan
        self.situation = started(value)
        self.outcome = None
        self.done = 0
        self.crashes = []

    @classmethod
    def after(cls, program, plan, value, crashes):
        """An execution that has done the moves before each crash, and the crashes."""
        stores = replay(program, plan, value, crashes)
        execution = cls(program, plan, value)
        execution.situation = started(stores[-1])
        execution.crashes = list(crashes)
        return execution

    @property
    def state(self):
        """The next step, the current values, the saved store, and during a `save` the number of written groups."""
        return _shown(self.situation)

    @property
    def is_over(self):
        """Whether the run has stopped."""
        return self.outcome is not None

    @property
    def history(self):
        """The list of the numbers of moves before each crash."""
        return list(self.crashes)

    @property
    def result(self):
        """The result, or None if the run has not stopped."""
        return self.outcome

    def move(self):
        """Does the next move, also the `stop`, and returns the state after it."""
        step, values, _, _ = self.situation
        self.situation = _after_event(self.program, self.plan, self.situation, MOVE)
        self.done += 1
        if self.situation[0] is None:
            self.outcome = stop_value(self.program, step, values)
        return self.state

    def crash(self):
        """Crashes, starts again, and returns the state after that."""
        self.situation = _after_event(self.program, self.plan, self.situation, CRASH)
        self.crashes.append(self.done)
        self.done = 0
        return self.state

    def moves(self, limit):
        """Does at most a number of moves, up to the `stop`, one at a time, and yields the state after each."""
        for _ in range(limit):
            if self.is_over:
                return
            yield self.move()

    def tried(self, *events):
        """The state after some events, each "move" or "crash", without a change of the execution."""
        situation = self.situation
        for event in events:
            situation = _after_event(self.program, self.plan, situation, event)
        return _shown(situation)
