"""Plans: the fewest instructions that make other cells of some cells.

Cells and goals are tuples of labels from the bottom up. A label is a tuple like a source: ("lit", constant) can be
written by an instruction, ("in", anything) can only be copied and moved.
"""


def counts_of(labels):
    """Return a dict of how often each label is there."""
    counts = {}
    for label in labels:
        counts[label] = counts.get(label, 0) + 1
    return counts


def is_reachable(cells, goal):
    """Return whether all labels of a goal that cannot be written are there."""
    there = counts_of(cells)
    return all([label[0] == "lit" or label in there for label in goal])


def standing_cells(cells, goal):
    """Return the list of the tuples (label, whether it stands) of cells.

    Those stand that are the longest beginning of the goal, perhaps with others between.
    """
    marked = []
    count = 0
    for label in cells:
        stands = count < len(goal) and label == goal[count]
        marked.append((label, stands))
        if stands:
            count = count + 1
    return marked


def best_plan(cells, goal):
    """Return how many steps a plan has and how many topmost cells it drops first, or None if there is no plan."""
    if not is_reachable(cells, goal):
        return None
    there = counts_of(cells)
    wanted = counts_of(goal)
    marked = standing_cells(cells, goal)
    pushed = len(goal) - len([label for label, stands in marked if stands])
    over = sum([max(0, count - wanted.get(label, 0)) for label, count in there.items()])
    best = (2 * over + pushed, 0)
    for drops, (label, stands) in enumerate(reversed(marked), 1):
        if there[label] > wanted.get(label, 0):
            over = over - 1
        there[label] = there[label] - 1
        if there[label] == 0 and label[0] == "in" and label in wanted:
            return best
        if stands:
            pushed = pushed + 1
        best = min(best, (drops + 2 * over + pushed, drops))
    return best


def clearing_words(marked, goal):
    """Return the words that roll away and drop what is left over, and the tuples of the cells that remain."""
    wanted = counts_of(goal)
    over = {label: count - wanted.get(label, 0) for label, count in counts_of([one for one, _ in marked]).items()}
    words = []
    remaining = []
    for label, stands in reversed(marked):
        if stands or over[label] <= 0:
            remaining.append((label, stands))
            continue
        over[label] = over[label] - 1
        # It is never the top: a plan that drops that one first is shorter.
        words.extend([f"r{len(remaining)}", "d"])
    return (words, remaining[::-1])


def building_words(marked, labels):
    """Return the words that put labels on top of what stands; they move each cell that does not stand yet."""
    now = list(marked)
    words = []
    for label in labels:
        if (label, False) in now:
            depth = now[::-1].index((label, False))
            words.append(f"r{depth}")
            now.pop(-1 - depth)
        elif label[0] == "lit":
            words.append(str(label[1]))
        else:
            depth = now[::-1].index((label, True))
            words.append(f"p{depth}")
        now.append((label, True))
    return words


def plan_words(cells, goal):
    """Return the list of the words of a plan with the fewest steps to a goal that can be reached."""
    _, drops = best_plan(cells, goal)
    marked = standing_cells(cells[:len(cells) - drops], goal)
    words, remaining = clearing_words(marked, goal)
    count = len([label for label, stands in marked if stands])
    return ["d"] * drops + words + building_words(remaining, goal[count:])
