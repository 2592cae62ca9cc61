"""Comparing: where two forms let other fillings through, or one comes back more often."""
from mendrounds.mending import check_telling
from mendrounds.reports import Report
from mendrounds.rounds import judge, weight
from mendrounds.spaces import Space


def parted(one, other):
    """A filling of the first pattern that just one of the forms lets through; None if they are alike."""
    space = Space.of(one, other)
    for pattern in space.each():
        filling = space.fill(pattern)
        if Report(one, filling).accepted != Report(other, filling).accepted:
            return filling
    return None


def slower(one, other, *, telling="all"):
    """A filling of the first pattern from which one has a greater height than the other; None if there is none."""
    check_telling(telling)
    space = Space.of(one, other)
    verdict = judge(one, telling=telling)
    against = judge(other, telling=telling)
    for pattern in space.each():
        filling = space.fill(pattern)
        if weight(verdict.height(filling)) > weight(against.height(filling)):
            return filling
    return None
