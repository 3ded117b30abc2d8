"""Sessions: programs that are stepped forth and back."""

from stackworks.effects import check_height, check_stack, stack_behind
from stackworks.errors import InvalidDepth, InvalidOperation, InvalidStep, InvalidValue, NoSuchStep, Nothing
from stackworks.moments import check_index, next_at
from stackworks.moves import inputs
from stackworks.programs import Program, check_plain
from stackworks.rows import cells_between
from stackworks.words import is_between, is_constant

# How many items an operation has in a log, by its name.
OPERATIONS = {"go": 2, "ahead": 2, "run_to": 2, "poke": 3}


class Session:
    """A plain program on a stack, at a step.

    Its state is the tuple (step, stack, base, stack at the base).
    """

    MOST = 100

    def __init__(self, program, stack):
        check_plain(program)
        check_stack(stack)
        check_height(stack, program.need)
        self._program = program
        self._state = (0, stack, 0, stack)
        # The operations that are not undone, each with the state before it.
        self._past = []

    @classmethod
    def of(cls, text, *cells):
        """Return a session of the program with a text, on a stack of cells."""
        return cls(Program(text), cells)

    @property
    def program(self):
        """Return the program."""
        return self._program

    @property
    def stack(self):
        """Return the stack at the present step."""
        return self._state[1]

    @property
    def step(self):
        """Return the number of steps behind which the session is."""
        return self._state[0]

    @property
    def base(self):
        """Return the least step to which the session can go."""
        return self._state[2]

    def __len__(self):
        return len(self._state[1])

    def __eq__(self, other):
        if not isinstance(other, Session):
            return False
        return self.program == other.program and self.step == other.step and self.stack == other.stack

    def _perform(self, operation):
        """Perform an operation as it is written in a log."""
        state = state_behind(self._program, self._state, operation)
        self._past.append((operation, self._state))
        self._state = state

    def go(self, step):
        """Go to a step; return the stack there."""
        self._perform(("go", step))
        return self.stack

    def ahead(self, *, steps=1):
        """Go so many steps ahead; return the stack there."""
        self._perform(("ahead", steps))
        return self.stack

    def run_to(self, index):
        """Go to the least later step behind which the word with a number is performed next; return the step."""
        self._perform(("run_to", index))
        return self.step

    def poke(self, depth, value):
        """Replace the cell at a depth; return the old value. The present step becomes the base."""
        before = self.stack
        self._perform(("poke", depth, value))
        return before[-1 - depth]

    def undo(self):
        """Revert the last operation that is not undone."""
        if len(self._past) == 0:
            raise Nothing("there is nothing to undo")
        before = self._past.pop()
        self._state = before[1]

    def log(self):
        """Return the list of the operations that are not undone."""
        return [operation for operation, _ in self._past]

    def preview(self, *operations):
        """Return the stack behind operations as they are written in a log; the session remains as it is."""
        for operation in operations:
            check_operation(operation)
        state = self._state
        for operation in operations:
            state = state_behind(self._program, state, operation)
        return state[1]


def check_operation(operation):
    """Raise an error if a value is not an operation as it is written in a log, whatever its further items are."""
    if not isinstance(operation, tuple) or len(operation) == 0 or not isinstance(operation[0], str):
        raise InvalidOperation("not a tuple with the name of an operation")
    if operation[0] not in OPERATIONS or len(operation) != OPERATIONS[operation[0]]:
        raise InvalidOperation("not an operation with its items")


def state_behind(program, state, operation):
    """Return the state behind an operation."""
    if operation[0] == "poke":
        return state_poked(state, operation[1], operation[2])
    step = step_behind(program, state, operation)
    now, stack, base, first = state
    if step < now:
        now, stack = (base, first)
    return (step, stack_between(program, now, step, stack), base, first)


def state_poked(state, depth, value):
    """Return the state with another value in the place of the cell at a depth."""
    step, stack, _, _ = state
    if not is_between(depth, 0, len(stack) - 1):
        raise InvalidDepth("there is no cell at this depth")
    if not is_constant(value):
        raise InvalidValue("not a value of a cell")
    place = len(stack) - 1 - depth
    poked = stack[:place] + (value,) + stack[place + 1:]
    return (step, poked, step, poked)


def step_behind(program, state, operation):
    """Return the step to which an operation goes."""
    name, value = operation
    now, _, base, _ = state
    if name == "run_to":
        return later_step(program, now, value)
    if name == "go" and is_between(value, base, program.steps):
        return value
    if name == "ahead" and is_between(value, 1, program.steps - now):
        return now + value
    raise InvalidStep("not a step to which the session can go")


def later_step(program, step, index):
    """Return the least later step behind which the word with a number is performed next."""
    check_index(program, index)
    found = next_at(program, step + 1, index) if step < program.steps else None
    if found is None:
        raise NoSuchStep("the word is not performed later")
    return found


def stack_between(program, start, stop, stack):
    """Return the stack behind the steps from one number of steps to another one."""
    cells = cells_between(program.row, start, stop, inputs(0, len(stack)))
    return stack_behind((len(stack), cells), stack)
