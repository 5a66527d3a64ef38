"""Exact counts of sights (point 10.6)."""

from gatewarden.books import ACCEPT
from gatewarden.plans import counted, joined_plans, narrowed, plan_of
from gatewarden.sightplans import DESTINATION, SOURCE, views_plan
from gatewarden.views import TOPS


def count_first(book, decision):
    """The number of the sights for whose view at the state 0 a book decides so."""
    plan = joined_plans(plan_of(book), views_plan(False), {(decision, ACCEPT): ACCEPT})
    return counted(plan, ACCEPT) - _count_mirrored(plan)


def _count_mirrored(plan):
    """The number of the tuples with equal addresses that a plan accepts."""
    total = 0
    start = 0
    for high in _address_highs(plan):
        # All addresses from the start to the high are alike, so one of them tells for all.
        one = narrowed(narrowed(plan, SOURCE, start, start), DESTINATION, start, start)
        total += (high - start + 1) * counted(one, ACCEPT)
        start = high + 1
    return total


def _address_highs(plan):
    """The highs of the ranges of addresses within which no node of a plan leads apart."""
    found = {TOPS[SOURCE]: True}
    for field, branches in plan[0]:
        if field in (SOURCE, DESTINATION):
            for high, _ in branches:
                found[high] = True
    return sorted(found)
