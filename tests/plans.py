"""Forms as plain data, and points 15, 18, 19 and 20 of DOC.md worked out from that, straight from their words.

A plan is a pair of fields and checks; a check is a dict with the keys kind, name, tree (see grammar), blames, after, instead.
"""
from grammar import random_tree, tree_fields, tree_holds, tree_tokens
from mendrounds.checks import Barrier, Check, Default, Exit, Guard, Repair
from mendrounds.conditions import Condition
from mendrounds.forms import Form
from mendrounds.layouts import Layout

CONSTANTS = {"number": ["0", "3", "-7/2"], "word": ["'red'", "'and'"]}
STAND_INS = {"number": [None, 0, 3, (1, 2)], "word": [None, "red", "old"]}
VALUES = {"number": [None, None, (-7, 2), 0, (1, 2), 3, 5], "word": [None, None, "red", "and", "old"]}
TELLING = ("check", "barrier", "repair")
STOPPING = ("barrier", "exit")
REPAIRING = ("repair", "default")
NAMES = ["one", "two", "three", "four", "five", "six", "seven", "eight"]


def random_plan(chance, fields, most=8, depth=1, constants=CONSTANTS, stand_ins=STAND_INS):
    names = chance.sample(NAMES, chance.randint(1, most))
    pools = (constants, stand_ins)
    return (fields, [random_check(chance, fields, names[:at], name, depth, pools) for at, name in enumerate(names)])


def random_check(chance, fields, before, name, depth, pools=(CONSTANTS, STAND_INS)):
    constants, values = pools
    kind = chance.choice(TELLING + STOPPING + REPAIRING + ("guard", "check", "repair", "default"))
    own = [field for field, _ in fields]
    stand_ins = {field: chance.choice(values[of]) for field, of in fields if chance.random() < 0.5} or {own[0]: None}
    return {
        "kind": kind, "name": name, "tree": random_tree(chance, dict(fields), constants, chance.randint(0, depth)),
        "blames": chance.sample(own, chance.randint(0, len(own))) if kind in TELLING else [],
        "after": chance.sample(before, min(len(before), chance.choice([0, 0, 1, 2]))),
        "instead": stand_ins if kind in REPAIRING else {},
    }


def random_filling(chance, fields):
    return {name: chance.choice(VALUES[kind]) for name, kind in fields}


def spelled(value):
    if value is None:
        return "blank"
    if isinstance(value, str):
        return f"'{value}'"
    return str(value) if isinstance(value, int) else f"{value[0]}/{value[1]}"


def check_tokens(check, order):
    """The tokens of the line of a check, with the fields in this order."""
    found = [check["kind"], check["name"], "needs", *tree_tokens(check["tree"])]
    pairs = [f"{field} = {spelled(check['instead'][field])}" for field in order if field in check["instead"]]
    fields = [field for field in order if field in check["blames"]]
    for word, items in [("instead", pairs), ("after", check["after"]), ("blames", fields)]:
        if items:
            found += [word, *" , ".join(items).split()]
    return found


def plan_lines(plan, order=None):
    """The lines of a plan, each a list of tokens."""
    fields, checks = plan
    names = [name for name, _ in fields]
    return [[kind, name] for name, kind in fields] + [check_tokens(check, order or names) for check in checks]


def plan_text(plan):
    """The written form."""
    return "\n".join([" ".join(tokens) for tokens in plan_lines(plan)])


def made_check(check, layout):
    kind = {"check": Check, "guard": Guard, "barrier": Barrier, "repair": Repair, "default": Default, "exit": Exit}[check["kind"]]
    named = {"after": check["after"]}
    if check["kind"] in TELLING:
        named["blames"] = check["blames"]
    if check["kind"] in REPAIRING:
        named["instead"] = check["instead"]
    return kind(check["name"], Condition(" ".join(tree_tokens(check["tree"])), layout), **named)


def made_form(plan):
    layout = Layout(list(plan[0]))
    return Form(layout, *[made_check(check, layout) for check in plan[1]])


def reported(plan, filling):
    """What is to be reported of a filling: a list with a dict for each check."""
    found = []
    for at, check in enumerate(plan[1]):
        # What the checks before this one put there is looked up anew for each field, the last one first.
        failing = [one for one in found[:at] if one["outcome"] == "fails"]
        put = {}
        for one in failing[::-1]:
            for field in one["check"]["instead"]:
                put.setdefault(field, one)
        view = {field: put[field]["check"]["instead"][field] if field in put else filling[field] for field in filling}
        is_met = tree_holds(check["tree"], view)
        outcomes = {one["check"]["name"]: one["outcome"] for one in found}
        outcome = "holds" if is_met else "fails"
        if [name for name in check["after"] if outcomes[name] != "holds"]:
            outcome = "skipped"
        if [one for one in failing if one["check"]["kind"] in STOPPING]:
            outcome = "unread"
        sources = [put[field] for field in tree_fields(check["tree"]) if field in put]
        cause = [one["check"]["name"] for one in found if one in sources][-1:]
        found.append({
            "check": check, "outcome": outcome, "view": view, "met": is_met, "cause": cause[0] if cause else None,
            "told": outcome == "fails" and check["kind"] in TELLING,
        })
    return found


def trail_of(rows, name):
    found = []
    while name is not None:
        found.append(name)
        name = [row["cause"] for row in rows if row["check"]["name"] == name][0]
    return found
