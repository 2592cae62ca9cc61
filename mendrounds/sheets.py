"""Sheets: a form that a person works on, sending by sending."""
from mendrounds.errors import BadField, BadValue, Closed, Locked, Started, Unmet
from mendrounds.layouts import check_filling, is_value
from mendrounds.mending import Ways, blamed_by, check_telling, seen_in
from mendrounds.reports import Report


class Sheet:
    """A form that a person works on."""

    def __init__(self, form, filling=None, *, telling="all"):
        check_telling(telling)
        start = form.layout.fill() if filling is None else filling
        check_filling(form.layout, start)
        self.form = form
        self._telling = telling
        self._start = {name: start[name] for name in form.layout.names}
        self._filling = dict(self._start)
        self._history = []
        self._seen = ()
        self._free = form.layout.names
        self._rounds = 0
        self._closed = False

    @property
    def telling(self):
        """What the person sees of what is told."""
        return self._telling

    @telling.setter
    def telling(self, value):
        self.tell(value)

    def tell(self, telling):
        """Sets the telling, as long as nothing was sent."""
        check_telling(telling)
        if self._history:
            raise Started()
        self._telling = telling

    @property
    def filling(self):
        """What is filled in now."""
        return dict(self._filling)

    @property
    def is_closed(self):
        """Whether a filling was let through."""
        return self._closed

    @property
    def rounds_so_far(self):
        """At how many sendings something was told."""
        return self._rounds

    @property
    def open_fields(self):
        """The fields that may be changed."""
        return self._free

    @property
    def seen(self):
        """The names of the checks that were seen at the last sending."""
        return self._seen

    def history(self):
        """The fillings that were sent."""
        return tuple([dict(filling) for filling in self._history])

    def __iter__(self):
        raise TypeError("a sheet is asked by the names of fields")

    def __getitem__(self, name):
        if name not in self.form.layout.names:
            raise BadField(name)
        return self._filling[name]

    def __setitem__(self, name, value):
        self.put(name, value)

    def put(self, name, value):
        """Puts a value into a field."""
        self.change([(name, value)])

    def change(self, pairs):
        """Puts the values of these pairs into their fields, all or none of them."""
        self._be_open()
        filling = dict(self._filling)
        for name, value in pairs:
            self._may_put(name, value)
            filling[name] = value
        self._filling = filling

    def _be_open(self):
        if self._closed:
            raise Closed()

    def _may_put(self, name, value):
        layout = self.form.layout
        if name not in layout:
            raise BadField(name)
        if value is not None and not is_value(layout.kind(name), value):
            raise BadValue(name)
        if name not in self._free:
            raise Locked(name)

    def send(self):
        """Sends the filling and returns its report."""
        self._be_open()
        report = Report(self.form, self._filling)
        unmet = tuple([name for name in self._seen if not report.met(name)])
        if unmet != ():
            raise Unmet(unmet)
        self._history.append(report.filling)
        self._seen = seen_in(report, self._telling)
        self._free = blamed_by(self.form, self._seen)
        self._closed = report.accepted
        if not self._closed:
            self._rounds = self._rounds + 1
        return report

    def back(self):
        """Makes the filling again what it was at the last sending, or at the beginning."""
        self._be_open()
        self._filling = dict(self._history[-1] if self._history else self._start)


def walk(form, filling, picks, *, telling="all"):
    """The play that begins with the filling and goes on to the mendings that are picked."""
    check_telling(telling)
    check_filling(form.layout, filling)
    ways = Ways(form, telling)
    at = ways.place_of(filling)
    path = []
    for pick in picks:
        nexts = ways.nexts(at)
        if nexts != ():
            at = nexts[pick % len(nexts)]
            path.append(at)
    return ways.follow(filling, path)
