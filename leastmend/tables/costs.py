"""Costs: pairs of a price and a size, or None where there is no tree."""


def added(one, two):
    """Return the sum of two costs, part by part; None if one of them is None."""
    if one is None or two is None:
        return None
    return one[0] + two[0], one[1] + two[1]


def least(costs):
    """Return the least one of some costs that are not None; None if there is none."""
    return min([cost for cost in costs if cost is not None], default=None)
