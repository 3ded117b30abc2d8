"""Powers: effects that are performed again and again."""

from math import lcm

from stackworks.effects import check_depth, check_effect, is_source
from stackworks.errors import InvalidSource, NotBalanced
from stackworks.moves import times_to_reach, way_back, ways_of
from stackworks.programs import check_times


def check_source(source):
    """Raise an error if a value is not a source with a depth from 0 on, or with a constant."""
    if not is_source(source):
        raise InvalidSource("not a source")


def cell_after(effect, times, depth):
    """Return the source of the cell that is at a depth behind so many times."""
    check_effect(effect)
    check_times(times)
    check_depth(depth)
    rest, at = way_back(effect.cut, times, depth)
    return effect.source(at) if rest > 0 else ("in", at)


def times_between(depth, other, growth):
    """Return how many times lead back from a depth to another one if all cells on the way stay untouched, or None."""
    if depth == other:
        return 0
    if growth == 0 or (depth - other) % growth != 0:
        return None
    times = (depth - other) // growth
    return times if times > 0 else None


def first_time(effect, depth, source):
    """Return the least number of times behind which the cell at a depth has a source, or None."""
    check_effect(effect)
    check_depth(depth)
    check_source(source)
    kind, number = source
    left = effect.left
    growth = effect.growth
    far = times_to_reach(effect.cut, depth)
    between = times_between(depth, number, growth) if kind == "in" else None
    if far is None or between is not None and between <= far:
        return between
    at = depth - growth * far
    times = far
    seen = {}
    while at < len(left) and at not in seen:
        if source == ("in", at):
            return times
        seen[at] = True
        found = left[len(left) - 1 - at]
        times = times + 1
        if found[0] == "lit":
            return times if source == found else None
        at = found[1]
    # Behind a ring no other source comes; below the cells that are left, the way goes on for ever.
    more = times_between(at, number, growth) if kind == "in" and at >= len(left) else None
    return None if more is None else times + more


def settles(effect):
    """Return the least (tail, period) such that, from `tail` times on, `period` times more make no difference."""
    check_effect(effect)
    if effect.growth != 0:
        raise NotBalanced("the effect takes and leaves different numbers of cells")
    most = 0
    period = 1
    for tail, ring, _ in ways_of(effect.cut).values():
        most = max(most, tail)
        period = lcm(period, len(ring))
    return (most, period)
