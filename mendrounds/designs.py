"""Designs: changes of a form, what is wrong with one, and the fewest changes that make it good."""
from mendrounds.checks import made
from mendrounds.errors import BadChange, TooMany
from mendrounds.mending import check_telling
from mendrounds.rounds import judge
from mendrounds.spaces import Space
from mendrounds.vanishing import vanished

MOST_CHANGES = 5
MOST_PATTERNS = 60
BLAMES = "blames"
AFTER = "after"
STOPS = "stops"
# What the kinds that may be made to stop become.
STOPPED = {"check": "barrier", "barrier": "barrier", "guard": "exit", "exit": "exit"}


def _is_change(form, thing):
    """Whether any value is a change of the form."""
    if not isinstance(thing, tuple) or len(thing) not in (2, 3) or thing[1] not in form:
        return False
    word = thing[0]
    check = form[thing[1]]
    if len(thing) == 2:
        return word == STOPS and check.KIND in STOPPED
    if word == BLAMES:
        return check.is_telling and thing[2] in form.layout
    return word == AFTER and thing[2] in form.names[:form.names.index(check.name)]


def _know(form, changes):
    for at, change in enumerate(changes):
        if not _is_change(form, change):
            raise BadChange(at)


def _with_change(check, change):
    """The check as it is with one change."""
    kind = check.KIND
    blames = check.blames
    after = check.after
    if change[0] == STOPS:
        kind = STOPPED[kind]
    elif change[0] == BLAMES and change[2] not in blames:
        blames = (*blames, change[2])
    elif change[0] == AFTER and change[2] not in after:
        after = (*after, change[2])
    return made(kind, check.name, check.needs, blames, after, check.instead)


def changed(form, changes):
    """The form with these changes."""
    _know(form, changes)
    found = form
    for change in changes:
        found = found.with_check(_with_change(found[change[1]], change))
    return found


def _first_vanishing(ways):
    """The fault of the first check with a complaint that may or must vanish; None if there is none."""
    for name in ways.form.names:
        pair = vanished(ways, name)
        if pair is not None:
            return ("vanishes", name, pair[0], pair[1])
    return None


def fault(form, rounds, *, clean=False, telling="all"):
    """What keeps the form from being good within these rounds; None if it is good."""
    verdict = judge(form, telling=telling)
    if verdict.rounds is None or verdict.rounds > rounds:
        return ("long", verdict.endure(verdict.longest()[0], rounds + 1))
    stuck = verdict.ways.dead_end()
    if stuck is not None:
        return ("stuck", stuck)
    return _first_vanishing(verdict.ways) if clean else None


def _choices(many, size):
    """All ascending tuples of so many of the indexes below many, themselves ascending."""
    found = [()]
    for _ in range(size):
        found = [(*chosen, at) for chosen in found for at in range(many) if chosen == () or chosen[-1] < at]
    return found


def least_changes(form, pool, rounds, *, clean=False, telling="all"):
    """All least sets of changes from the pool with which the form is good, as tuples of indexes."""
    check_telling(telling)
    if len(pool) > MOST_CHANGES:
        raise TooMany("changes")
    _know(form, pool)
    if len(Space.of(form)) > MOST_PATTERNS:
        raise TooMany("patterns")
    for size in range(len(pool) + 1):
        found = []
        for chosen in _choices(len(pool), size):
            design = changed(form, [pool[at] for at in chosen])
            if fault(design, rounds, clean=clean, telling=telling) is None:
                found.append(chosen)
        if found:
            return found
    return []
