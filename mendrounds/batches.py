"""Batches: several fillings of one form that are sent together."""
from mendrounds.careful import advise
from mendrounds.errors import BadBatch
from mendrounds.mending import check_telling, mends
from mendrounds.reports import Report
from mendrounds.rounds import judge, weight


def _may_become(report, thing, telling):
    """Whether any value may stand in the next batch where the filling of the report stands in this one."""
    form = report.form
    if not form.layout.is_filling(thing):
        return False
    if report.accepted:
        return thing == report.filling
    return mends(report, Report(form, thing), telling)


class Batch:
    """One to eight fillings of one form."""

    MOST = 8

    def __init__(self, form, rows, *, telling="all"):
        check_telling(telling)
        if not isinstance(rows, (list, tuple)) or not 1 <= len(rows) <= Batch.MOST:
            raise BadBatch(-1)
        for at, row in enumerate(rows):
            if not form.layout.is_filling(row):
                raise BadBatch(at)
        self.form = form
        self.telling = telling
        self._reports = [Report(form, row) for row in rows]
        self.told = tuple([(at, name) for at, report in enumerate(self._reports) for name in report.told])

    def __len__(self):
        return len(self._reports)

    def rows(self):
        """The fillings."""
        return [report.filling for report in self._reports]

    def is_mending(self, thing):
        """Whether any value is a batch that is a mending of this one."""
        if self.told == () or not isinstance(thing, (list, tuple)) or len(thing) != len(self._reports):
            return False
        return all([_may_become(report, row, self.telling) for report, row in zip(self._reports, thing)])

    def _lost_rows(self, advice):
        return [row for row in self.rows() if advice.depth(row) is None]

    def _height(self, verdict, advice):
        # A lost row is never let through: the batch comes back as often as the one that is stuck first.
        lost = [verdict.height(row) for row in self._lost_rows(advice)]
        if lost:
            return min(lost, key=weight)
        return max([verdict.height(row) for row in self.rows()], key=weight)

    def greatest(self):
        """The height of the batch."""
        return self._height(judge(self.form, telling=self.telling), advise(self.form, telling=self.telling))

    def fewest(self):
        """The depth of the batch."""
        advice = advise(self.form, telling=self.telling)
        if self._lost_rows(advice):
            return None
        return max([advice.depth(row) for row in self.rows()])

    def play(self):
        """A play of batches of most rounds that begins with this one; None if there is no most."""
        verdict = judge(self.form, telling=self.telling)
        advice = advise(self.form, telling=self.telling)
        most = self._height(verdict, advice)
        if most is None:
            return None
        rows = self.rows()
        # The rows that are not lost need not hold the others up: they are mended with as few mendings as can be.
        plays = [advice.play(row) for row in rows]
        if None in plays:
            many = most
            plays = [verdict.endure(row, most) if play is None else play for row, play in zip(rows, plays)]
        else:
            leading = [verdict.height(row) for row in rows].index(most)
            plays[leading] = verdict.play(rows[leading])
            many = len(plays[leading])
        return tuple([[dict(play[min(at, len(play) - 1)]) for play in plays] for at in range(many)])
