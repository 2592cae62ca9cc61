"""Things that are passed where any value may be passed."""

STRANGE = [
    None, True, False, 0, 1, -1, 2, 10 ** 299, "", "a", "A", "number", "word", "and", "abcdefghi", "a b", (), (1,), (1, 2),
    ((),), ((), ()), (True, 0), ("a", "number"), ("a",), [], [1], ["a"], [("a", "number")], [[]], [None], {}, {"a": None},
    {"a": 1}, {"": []}, {"a": {"b": [1, (2, [None])]}}, [[[[[[[[]]]]]]]], ((((((((),),),),),),),), ("x" * 1000,), [True] * 50,
]


def error_of(kind, call, *given, **named):
    """The one thing that the error holds that the call raises; None if it holds nothing."""
    try:
        call(*given, **named)
    except kind as error:
        if error.__class__ != kind:
            raise AssertionError("another error") from error
        return (list(vars(error).values()) or [None])[0]
    raise AssertionError("no error")
