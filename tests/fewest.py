"""The fewest instructions between cells, found in two plain ways: by the formula, and by trying all programs."""

from collections import Counter


def standing(cells, goal):
    """Return how many labels at the beginning of the goal stand in the cells, perhaps with others between."""
    found, rest = 0, list(cells)
    while found < len(goal) and goal[found] in rest:
        rest = rest[rest.index(goal[found]) + 1:]
        found += 1
    return found


def by_formula(cells, goal, is_symbol):
    """Return the least number by the formula of section 11, or None."""
    wanted, best = Counter(goal), None
    for dropped in range(len(cells) + 1):
        there = cells[:len(cells) - dropped]
        if any(is_symbol(label) and label not in there for label in goal):
            continue
        over = sum(max(0, count - wanted[label]) for label, count in Counter(there).items())
        steps = dropped + 2 * over + len(goal) - standing(there, goal)
        best = steps if best is None else min(best, steps)
    return best


def next_states(state, numbers, highest):
    if state:
        yield state[:-1]
    for at in range(len(state)):
        yield state[:at] + state[at + 1:] + state[at:at + 1]
        if len(state) < highest:
            yield state + state[at:at + 1]
    if len(state) < highest:
        for number in numbers:
            yield state + (number,)


def all_distances(cells, numbers, highest):
    """Return a dict of all states of at most so many cells with the fewest instructions from the cells to them."""
    found, heads = {cells: 0}, [cells]
    while heads:
        further = []
        for state in heads:
            for behind in next_states(state, numbers, highest):
                if behind not in found:
                    found[behind] = found[state] + 1
                    further.append(behind)
        heads = further
    return found
