"""Shuffles: piles of symbols and integers, and the fewest instructions between them."""

from stackworks.effects import check_height, stack_behind
from stackworks.errors import InvalidPile, NotReachable
from stackworks.plans import best_plan, is_reachable, plan_words
from stackworks.programs import Program, check_plain
from stackworks.words import is_constant, is_name

MOST_LABELS = 60
MOST_LETTERS = 8


def check_pile(pile):
    """Raise an error if a value is not a pile."""
    if not isinstance(pile, tuple) or len(pile) > MOST_LABELS:
        raise InvalidPile("not a tuple of at most 60 labels")
    if not all([is_constant(label) or is_name(label, 1, MOST_LETTERS) for label in pile]):
        raise InvalidPile("not all are labels")


def labels_of(pile):
    """Return the labels of a pile as they stand in plans."""
    return tuple([("in" if isinstance(label, str) else "lit", label) for label in pile])


def shuffled(pile, program):
    """Return the pile behind a plain program."""
    check_pile(pile)
    check_plain(program)
    check_height(pile, program.need)
    return stack_behind(program.row.move, pile)


def can_reach(pile, goal):
    """Return whether some program leads from a pile to another one."""
    check_pile(pile)
    check_pile(goal)
    return is_reachable(labels_of(pile), labels_of(goal))


def fewest(pile, goal):
    """Return the least number of steps of a program that leads from a pile to another one, or None."""
    check_pile(pile)
    check_pile(goal)
    best = best_plan(labels_of(pile), labels_of(goal))
    return None if best is None else best[0]


def plan(pile, goal):
    """Return a plain program without repeats that leads from a pile to another one in as few steps as possible."""
    if not can_reach(pile, goal):
        raise NotReachable("a symbol of the goal is not in the pile")
    return Program(" ".join(plan_words(labels_of(pile), labels_of(goal))))
