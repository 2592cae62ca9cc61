"""Forms: a layout and checks, in order."""
from mendrounds.checks import Barrier, Check, Default, Exit, Guard, Repair, made
from mendrounds.conditions import Condition
from mendrounds.errors import BadCheck, BadCondition, BadForm, NoCheck, Refused
from mendrounds.layouts import NUMBER, WORD, Layout, is_name
from mendrounds.reports import Report
from mendrounds.tokens import BLANK, constant, tokens_of
from mendrounds.values import ascending

NEEDS = "needs"
# The parts behind the condition of a check, in the order in which they stand.
PARTS = ("instead", "after", "blames")


def _read_field(line):
    """The name and kind on the line of a field; None if it is no such line."""
    tokens = [pair[1] for pair in tokens_of(line)]
    if len(tokens) != 2 or tokens[0] not in (NUMBER, WORD) or not is_name(tokens[1]):
        return None
    return (tokens[1], tokens[0])


def _read_fields(lines):
    """The fields on the first lines, as long as a layout may have a further one."""
    found = []
    names = []
    for line in lines[:Layout.MOST]:
        field = _read_field(line)
        if field is None or field[0] in names:
            return found
        found.append(field)
        names.append(field[0])
    return found


def _items(tokens):
    """The tokens between the commas: a list of lists."""
    found = [[]]
    for token in tokens:
        if token == ",":
            found.append([])
        else:
            found[-1].append(token)
    return found


def _read_names(tokens, what):
    items = _items(tokens)
    if not all([len(item) == 1 for item in items]):
        raise BadCheck(what)
    return [item[0] for item in items]


def _read_stand_ins(tokens):
    found = {}
    for item in _items(tokens):
        if len(item) != 3 or item[1] != "=" or item[0] in found:
            raise BadCheck("instead")
        if item[2] != BLANK and constant(item[2]) is None:
            raise BadCheck("instead")
        found[item[0]] = constant(item[2])
    return found


def _split(tokens):
    """The tokens of each part of a line of a check: the condition under the word needs, and those of PARTS."""
    starts = [at for at, token in enumerate(tokens) if token in PARTS]
    words = [tokens[at] for at in starts]
    if words != [word for word in PARTS if word in words]:
        raise BadCheck(NEEDS)
    return {tokens[at]: tokens[at + 1:end] for at, end in zip(starts, [*starts[1:], len(tokens)])}


def _read_parts(kind, name, needs, parts):
    """The check of a kind, parts being a dict of the words of PARTS that are there and what stands behind them."""
    after = _read_names(parts["after"], "after") if "after" in parts else []
    if ("instead" in parts) != (kind in (Repair.KIND, Default.KIND)):
        raise BadCheck("instead")
    if kind in (Guard.KIND, Default.KIND, Exit.KIND) and "blames" in parts:
        raise BadCheck("blames")
    blames = _read_names(parts["blames"], "blames") if "blames" in parts else []
    instead = _read_stand_ins(parts["instead"]) if "instead" in parts else {}
    return made(kind, name, needs, blames, after, instead)


def _read_check(line, layout):
    """The check on a line. Raises BadCheck or BadCondition if it is no such line."""
    pairs = tokens_of(line)
    tokens = [pair[1] for pair in pairs]
    kinds = (Check.KIND, Guard.KIND, Barrier.KIND, Repair.KIND, Default.KIND, Exit.KIND)
    if len(tokens) < 3 or tokens[0] not in kinds or tokens[2] != NEEDS:
        raise BadCheck(NEEDS)
    # No condition has one of these words, so it ends where the first of them stands.
    ends = [at for at, token in pairs if token in PARTS]
    start = pairs[2][0] + len(NEEDS)
    end = ends[0] if ends else len(line)
    needs = Condition(line[start:end], layout)
    return _read_parts(tokens[0], tokens[1], needs, _split(tokens))


def _may_follow(checks, check):
    """Whether a form that has these checks may have this one behind them."""
    names = [one.name for one in checks]
    return check.name not in names and all([name in names for name in check.after])


def _read_checks(lines, first, layout):
    """The checks on the lines from the first of them on."""
    found = []
    for at, line in list(enumerate(lines))[first:]:
        try:
            check = _read_check(line, layout)
        except (BadCheck, BadCondition):
            raise BadForm(at) from None
        if len(found) == Form.MOST or not _may_follow(found, check):
            raise BadForm(at)
        found.append(check)
    return found


def _constants_of(checks):
    """The constants that conditions and stand-ins mention, as they come."""
    found = []
    for check in checks:
        instead = check.instead
        found.extend([*check.needs.numbers, *check.needs.words])
        found.extend([instead[field] for field in instead if instead[field] is not None])
    return found


class Form:
    """A layout and one to eight checks."""

    MOST = 8

    def __init__(self, layout, *checks):
        if not 1 <= len(checks) <= Form.MOST:
            raise BadForm(-1)
        for at, check in enumerate(checks):
            if check.needs.layout != layout or not _may_follow(checks[:at], check):
                raise BadForm(at)
        self.layout = layout
        self.checks = tuple(checks)
        self.names = tuple([check.name for check in checks])
        constants = _constants_of(checks)
        self.numbers = ascending([one for one in constants if not isinstance(one, str)])
        self.words = tuple(sorted(set([one for one in constants if isinstance(one, str)])))

    @classmethod
    def read(cls, text):
        """The form that is written in this text."""
        if not isinstance(text, str):
            raise BadForm(-1)
        lines = text.split("\n")
        fields = _read_fields(lines)
        if len(fields) == 0:
            raise BadForm(0)
        layout = Layout(fields)
        checks = _read_checks(lines, len(fields), layout)
        if len(checks) == 0:
            raise BadForm(len(lines))
        return cls(layout, *checks)

    def __len__(self):
        return len(self.checks)

    def __iter__(self):
        return iter(self.checks)

    def __contains__(self, name):
        return name in self.names

    def __getitem__(self, name):
        if name not in self.names:
            raise NoCheck(name)
        return self.checks[self.names.index(name)]

    def __eq__(self, other):
        return isinstance(other, Form) and self.layout == other.layout and self.checks == other.checks

    def __str__(self):
        fields = [f"{self.layout.kind(name)} {name}" for name in self.layout.names]
        return "\n".join([*fields, *[str(check) for check in self.checks]])

    def __call__(self, filling):
        return Report(self, filling)

    def _refusal(self, names):
        """The error that tells of the first of the names, caused by the second, and so on; None if there are none."""
        found = None
        for name in names[::-1]:
            found = Refused(name, self[name].blames, found)
        return found

    def demand(self, filling, *, name=None):
        """Raises Refused if the check of this name is told; by default if any is told, for the first one."""
        report = Report(self, filling)
        if name is not None and name not in self.names:
            raise NoCheck(name)
        wanted = report.told[:1] if name is None else (name,)
        if wanted == () or wanted[0] not in report.told:
            return
        trail = report.trail(wanted[0])
        cause = self._refusal(trail[1:])
        raise Refused(trail[0], self[trail[0]].blames, cause) from cause

    def with_check(self, check):
        """The form with this check in the place of the one of its name."""
        if check.name not in self.names:
            raise NoCheck(check.name)
        checks = [check if one.name == check.name else one for one in self.checks]
        return Form(self.layout, *checks)

    def in_order(self, names):
        """The form with its checks in the order of these names."""
        if not isinstance(names, list) or len(names) != len(self.names):
            raise BadForm(-1)
        if not all([name in names for name in self.names]):
            raise BadForm(-1)
        checks = [self[name] for name in names]
        return Form(self.layout, *checks)
