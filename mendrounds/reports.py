"""Reports: what a form tells of a filling."""
from mendrounds.errors import NoCheck, NotTold, Unlike
from mendrounds.layouts import check_filling

HOLDS = "holds"
FAILS = "fails"
SKIPPED = "skipped"
UNREAD = "unread"


def _outcome(check, outcomes, is_stopped, is_met):
    """The outcome of a check, outcomes being those of the checks before it by their names."""
    if is_stopped:
        return UNREAD
    if any([outcomes[name] != HOLDS for name in check.after]):
        return SKIPPED
    return HOLDS if is_met else FAILS


def _last_source(check, sources):
    """The name of the last check that put a stand-in into a field that the condition of this one mentions."""
    places = [sources[field] for field in check.needs.mentions() if field in sources]
    return max(places)[1] if places else None


def _rows(form, filling):
    """For each check its outcome, its view, whether it is met, and what would be the cause if it failed."""
    found = []
    outcomes = {}
    view = filling
    sources = {}
    is_stopped = False
    for at, check in enumerate(form.checks):
        is_met = check.needs.holds(view)
        outcome = _outcome(check, outcomes, is_stopped, is_met)
        found.append((outcome, view, is_met, _last_source(check, sources)))
        outcomes[check.name] = outcome
        if outcome == FAILS:
            stand_ins = check.instead
            placed = {field: (at, check.name) for field in stand_ins}
            view = {**view, **stand_ins}
            sources = {**sources, **placed}
            is_stopped = check.stops
    return found


class Complaint:
    """What a report tells of one check."""

    def __init__(self, name, blames, cause):
        self.name = name
        self.blames = blames
        self.cause = cause


class Report:
    """The report of a filling."""

    def __init__(self, form, filling):
        check_filling(form.layout, filling)
        self.form = form
        self._filling = {field: filling[field] for field in form.layout.names}
        rows = _rows(form, self._filling)
        self.outcomes = tuple([row[0] for row in rows])
        self._views = {name: row[1] for name, row in zip(form.names, rows)}
        self._meets = {name: row[2] for name, row in zip(form.names, rows)}
        # The causes of those that fail; the others have none.
        self._causes = {name: row[3] for name, row in zip(form.names, rows) if row[0] == FAILS}
        told = [check for check in form.checks if check.name in self._causes and check.is_telling]
        self.told = tuple([check.name for check in told])
        self.blamed = tuple([field for field in form.layout.names if any([field in one.blames for one in told])])
        self._complaints = tuple([Complaint(one.name, one.blames, self._causes[one.name]) for one in told])

    @property
    def filling(self):
        """The filling."""
        return dict(self._filling)

    @property
    def accepted(self):
        """Whether nothing is told."""
        return self.told == ()

    def _know(self, name):
        if name not in self.form.names:
            raise NoCheck(name)

    def view(self, name):
        """The view of the check of this name."""
        self._know(name)
        return dict(self._views[name])

    def met(self, name):
        """Whether the filling meets the check of this name."""
        self._know(name)
        return self._meets[name]

    def __iter__(self):
        return iter(self._complaints)

    def __len__(self):
        return len(self._complaints)

    def __contains__(self, name):
        return name in self.told

    def __getitem__(self, name):
        self._know(name)
        if name not in self.told:
            raise NotTold(name)
        return self._complaints[self.told.index(name)]

    def trail(self, name):
        """The name of a check that fails, the name of its cause, the cause of that one, and so on."""
        self._know(name)
        if name not in self._causes:
            raise NotTold(name)
        found = []
        while name is not None:
            found.append(name)
            name = self._causes[name]
        return found

    def _shown_blames(self, name):
        blames = self[name].blames if name in self.told else ()
        return ",".join(blames) if blames else "-"

    def page(self):
        """A line for each check: its index, its name, its outcome, and what it blames."""
        shown = list(zip(self.form.names, self.outcomes))
        return [
            f"{at:>2} {name:<8} {outcome:<7} {self._shown_blames(name)}" for at, (name, outcome) in enumerate(shown)
        ]


def _many_in(row):
    return row[1]


class Tally:
    """Counts how often the checks of a form are told."""

    def __init__(self, form):
        self._form = form
        self._many = {name: 0 for name in form.names}
        self._reports = 0

    def add(self, report):
        """Counts a report."""
        if report.form != self._form:
            raise Unlike()
        for name in report.told:
            self._many[name] = self._many[name] + 1
        self._reports = self._reports + 1

    def __iadd__(self, other):
        self.add(other)
        return self

    def __len__(self):
        return len(range(self._reports))

    def __iter__(self):
        raise TypeError("a tally is asked by the names of checks")

    def __getitem__(self, name):
        if name not in self._form.names:
            raise NoCheck(name)
        return self._many[name]

    def rows(self):
        """Pairs of a name and how often it was told, the greatest count first."""
        pairs = [(name, self._many[name]) for name in self._form.names]
        return sorted(pairs, key=_many_in, reverse=True)

    def page(self):
        """A line for each of the rows."""
        return [f"{name:<8} {many:>6,}" for name, many in self.rows()]
