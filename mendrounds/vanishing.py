"""Complaints that vanish when others are met, and what is never told."""
from mendrounds.errors import NoCheck
from mendrounds.mending import Ground, blamed_by, leads_to
from mendrounds.reports import Report

STAYS = "stays"
MAY = "may"
MUST = "must"


def _know(form, name):
    if name not in form:
        raise NoCheck(name)


def _others(report, name):
    return [one for one in report.told if one != name]


def _free_fields(report, name):
    """The fields that a change of the others may change."""
    blamed = blamed_by(report.form, _others(report, name))
    return tuple([field for field in blamed if field not in report.form[name].blames])


def _changes(ground, at, name):
    """The indexes of the patterns of the changes of the others, for a complaint at the pattern with this index."""
    report = ground.report(at)
    return ground.reach(at, _others(report, name), _free_fields(report, name))


def _gone(ground, changes, name):
    """Those of the changes at which the check is not told."""
    return [at for at in changes if name not in ground.report(at).told]


def _fate(ground, at, name):
    changes = _changes(ground, at, name)
    gone = _gone(ground, changes, name)
    if gone == []:
        return STAYS
    return MUST if gone == changes else MAY


def _told_places(ground, name):
    """The indexes of the patterns at which the check of this name is told."""
    return [at for at in range(len(ground.patterns)) if name in ground.report(at).told]


def _first_of(ground, places):
    return ground.some_filling(places[0]) if places else None


def fate(form, filling, name):
    """What may become of a complaint when the others that are told are met: it stays, may vanish or must vanish."""
    complaint = Report(form, filling)[name]
    ground = Ground(form)
    return _fate(ground, ground.place_of(filling), complaint.name)


def vanished(ground, name):
    """What vanishing gives, on ground that may serve for several checks."""
    for at in _told_places(ground, name):
        gone = _gone(ground, _changes(ground, at, name), name)
        if gone:
            filling = ground.some_filling(at)
            return (filling, ground.moved(filling, gone[0], _free_fields(ground.report(at), name)))
    return None


def vanishing(form, name):
    """A pair of a filling at which the complaint may or must vanish, and a change at which it is not told; or None."""
    _know(form, name)
    return vanished(Ground(form), name)


def must_vanish(form, name):
    """A filling of the first pattern at which the complaint must vanish, or None."""
    _know(form, name)
    ground = Ground(form)
    return _first_of(ground, [at for at in _told_places(ground, name) if _fate(ground, at, name) == MUST])


def is_clean(form):
    """Whether each complaint stays at each filling."""
    ground = Ground(form)
    return all([vanished(ground, name) is None for name in form.names])


def is_vanishing(form, name, thing):
    """Whether any value is a pair of a filling at which the check is told, and a change at which it is not."""
    _know(form, name)
    if not isinstance(thing, tuple) or len(thing) != 2 or not all([form.layout.is_filling(one) for one in thing]):
        return False
    report = Report(form, thing[0])
    other = Report(form, thing[1])
    if name not in report.told or name in other.told:
        return False
    return leads_to(report, other, _others(report, name), _free_fields(report, name))


def told_at(form, name):
    """A filling of the first pattern at which the check is told, or None."""
    _know(form, name)
    ground = Ground(form)
    return _first_of(ground, _told_places(ground, name))


def alone(form, name):
    """A filling of the first pattern at which nothing but this check is told, or None."""
    _know(form, name)
    ground = Ground(form)
    return _first_of(ground, [at for at in range(len(ground.patterns)) if ground.report(at).told == (name,)])


def _is_leak(report):
    return report.accepted and not all([report.met(check.name) for check in report.form if check.is_telling])


def _is_false_alarm(report):
    filling = report.filling
    return any([report.form[name].needs.holds(filling) for name in report.told])


def leak(form):
    """A filling of the first pattern that is let through although it does not meet a telling check, or None."""
    ground = Ground(form)
    return _first_of(ground, [at for at in range(len(ground.patterns)) if _is_leak(ground.report(at))])


def false_alarm(form):
    """A filling of the first pattern at which a check is told that holds for what was filled in, or None."""
    ground = Ground(form)
    return _first_of(ground, [at for at in range(len(ground.patterns)) if _is_false_alarm(ground.report(at))])
