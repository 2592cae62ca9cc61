"""Mendings: what a person sees of a filling, and what fillings they may change it to."""
from mendrounds.errors import BadTelling, NoFilling
from mendrounds.layouts import check_filling
from mendrounds.reports import Report
from mendrounds.spaces import Space

TELLINGS = ("all", "first")


def check_telling(telling):
    """Raises BadTelling if any value is not a telling."""
    if telling not in TELLINGS:
        raise BadTelling(telling)


def seen_in(report, telling):
    """The names of the checks of a report that the person sees."""
    return report.told if telling == "all" else report.told[:1]


def blamed_by(form, names):
    """The fields that the checks of these names blame, in the order of the layout."""
    return tuple([field for field in form.layout.names if any([field in form[name].blames for name in names])])


def leads_to(report, other, names, fields):
    """Whether the filling of the other report meets these checks, and differs from the first on these fields only."""
    before = report.filling
    after = other.filling
    stays = all([before[field] == after[field] for field in before if field not in fields])
    return stays and all([other.met(name) for name in names])


def mends(report, other, telling):
    """Whether the filling of the other report is a mending of that of the first."""
    names = seen_in(report, telling)
    return names != () and leads_to(report, other, names, blamed_by(report.form, names))


class Ground:
    """The patterns of a form, ascending. What is reported of them is worked out when it is asked for."""

    def __init__(self, form):
        self.form = form
        self.space = Space.of(form)
        self.patterns = list(self.space.each())
        self._places = {pattern: at for at, pattern in enumerate(self.patterns)}
        self._reports = {}
        self._remainders = {}

    def place_of(self, filling):
        """The index of the pattern of a filling."""
        return self._places[self.space.pattern_of(filling)]

    def some_filling(self, at):
        """A filling of the pattern with this index."""
        return self.space.fill(self.patterns[at])

    def report(self, at):
        """The report of a filling of the pattern with this index; but for the values, it is that of all of them."""
        if at not in self._reports:
            self._reports[at] = Report(self.form, self.some_filling(at))
        return self._reports[at]

    def reach(self, at, names, fields):
        """The indexes of the patterns that agree with that one outside these fields, and meet these checks."""
        if fields not in self._remainders:
            self._remainders[fields] = [self.space.without(pattern, fields) for pattern in self.patterns]
        remainders = self._remainders[fields]
        near = [other for other, remainder in enumerate(remainders) if remainder == remainders[at]]
        return [other for other in near if all([self.report(other).met(name) for name in names])]

    def moved(self, filling, at, fields):
        """A filling of the pattern with this index that differs from this one on these fields only."""
        kept = {name: filling[name] for name in filling if name not in fields}
        return self.space.fill(self.patterns[at], kept=kept)


class Ways(Ground):
    """The patterns of a form, and how mendings by a telling lead from one to another."""

    def __init__(self, form, telling):
        super().__init__(form)
        self.telling = telling
        self._nexts = {}

    def is_let_through(self, at):
        """Whether nothing is told of the pattern with this index."""
        return self.report(at).accepted

    def nexts(self, at):
        """The indexes of the patterns of the mendings, ascending."""
        if at not in self._nexts:
            names = seen_in(self.report(at), self.telling)
            self._nexts[at] = tuple(self.reach(at, names, blamed_by(self.form, names))) if names else ()
        return self._nexts[at]

    def dead_end(self):
        """A filling of the first pattern at which something is told and which has no mending, or None."""
        for at in range(len(self.patterns)):
            if not self.is_let_through(at) and self.nexts(at) == ():
                return self.some_filling(at)
        return None

    def follow(self, filling, path):
        """The play that begins with a filling and goes on along the patterns with these indexes."""
        last = {name: filling[name] for name in self.form.layout.names}
        found = [last]
        for at in path:
            names = seen_in(self.report(self.place_of(last)), self.telling)
            last = self.moved(last, at, blamed_by(self.form, names))
            found.append(last)
        return tuple(found)


def seen(form, filling, *, telling="all"):
    """The names of the checks that the person sees at a filling."""
    check_telling(telling)
    return seen_in(Report(form, filling), telling)


def is_mending(form, filling, other, *, telling="all"):
    """Whether the other filling is a mending of the first one."""
    check_telling(telling)
    return mends(Report(form, filling), Report(form, other), telling)


def mendings(form, filling, *, telling="all"):
    """The patterns of the mendings of a filling, ascending."""
    check_telling(telling)
    check_filling(form.layout, filling)
    ways = Ways(form, telling)
    yield from [ways.patterns[at] for at in ways.nexts(ways.place_of(filling))]


def mend(form, filling, pattern, *, telling="all"):
    """A mending of the filling with this pattern."""
    check_telling(telling)
    report = Report(form, filling)
    fields = blamed_by(form, seen_in(report, telling))
    found = Space.of(form).fill(pattern, kept={name: filling[name] for name in filling if name not in fields})
    if not mends(report, Report(form, found), telling):
        raise NoFilling(pattern)
    return found


def dead_end(form, *, telling="all"):
    """A filling of the first pattern at which something is told and which has no mending; None if there is none."""
    check_telling(telling)
    return Ways(form, telling).dead_end()


def is_play(form, thing, *, telling="all"):
    """Whether any value is a play."""
    check_telling(telling)
    if not isinstance(thing, tuple) or thing == () or not all([form.layout.is_filling(one) for one in thing]):
        return False
    last = Report(form, thing[0])
    for one in thing[1:]:
        report = Report(form, one)
        if not mends(last, report, telling):
            return False
        last = report
    return True


def rounds_of(form, play):
    """The rounds of a play: the number of its fillings at which something is told."""
    return len([one for one in play if not Report(form, one).accepted])
