"""Small forms, and wrong things to pass, that several tests use."""
from mendrounds.forms import Form
from support import STRANGE

TELLINGS = ("all", "first")
WRONG_TELLINGS = [one for one in STRANGE if one not in TELLINGS] + ["All", "both", ["all"], ("all",), {"all": 1}]
# None of these is a filling of a form with the number fields a and b; with what BadFilling then holds.
WRONG_FILLINGS = [
    (None, None), ({}, None), ({"a": 1}, None), ({"a": 1, "b": 2, "c": 3}, None), ({"a": True, "b": "x"}, "a"), ([], None),
    ({"a": 1, "b": "x"}, "b"), ({"a": (2, 2), "b": 1}, "a"), ({"b": [], "a": None}, "b"), ((1, 2), None), ("ab", None),
]


def ab(a, b):
    return {"a": a, "b": b}


def fields(*lines):
    """A form with the number fields a and b."""
    return Form.read("\n".join(["number a", "number b", *lines]))


def wide_form(constants, blamed=True):
    """A form with one number field and so many constants: twice as many patterns, and two more."""
    numbers = " , ".join([str(one) for one in range(constants)])
    return Form.read(f"number n\ncheck some needs n in ( {numbers} )" + (" blames n" if blamed else ""))


# The examples of points 27 and 24.
ORDERED = fields("check there needs a given and b given blames a, b", "check order needs a < b after there blames b")
BOTH = fields("check there needs a given and b given blames a, b", "check order needs a < b blames b")
TURNS = fields("check up needs a > b blames a", "check down needs b > a blames b")
