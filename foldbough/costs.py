"""The least and the greatest cost of a fold's rows, and the first row that has it."""

from foldbough.errors import NoCosts
from foldbough.folds import downward
from foldbough.kinds import are_weights


def least(fold, costs):
    """The least cost of a row, and the first row that has it; None where there are no rows."""
    _check_costs(costs)
    return _first_least(fold, costs)


def greatest(fold, costs):
    """The greatest cost of a row, and the first row that has it; None where there are no rows."""
    _check_costs(costs)
    # The greatest of all costs is the least of those turned about, and its first row the same.
    found = _first_least(fold, {told: -cost for told, cost in costs.items()})
    if found is None:
        return None
    return (-found[0], found[1])


def _check_costs(costs):
    if not are_weights(costs):
        raise NoCosts("costs are a dict of whole numbers by column and value")


def _first_least(fold, costs):
    if fold.tops() is None:
        return None
    bunches = fold.bunches()
    best = [None] * len(bunches)
    for number in downward(fold.tree(), bunches)[::-1]:
        column, entries = bunches[number]
        found = []
        for value, parts in entries:
            cost, behind = _together(best, parts)
            found.append((costs.get((column, value), 0) + cost, (value,) + behind))
        # Of those of the same cost the first row is the least.
        best[number] = min(found)
    return _together(best, fold.tops())


def _together(best, parts):
    """The cost of the best rows of these parts together, and these rows one behind the other."""
    row = ()
    for part in parts:
        row = row + best[part][1]
    return (sum([best[part][0] for part in parts]), row)
