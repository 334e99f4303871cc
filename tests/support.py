"""What several tests need."""

# Values that are none of the program's own kinds, for the checks of values of any kind.
ODD_VALUES = (None, True, False, 0, 1, -1, 10 ** 400, 1.0, "", "A1", b"A1", (), [], {}, set(), (1,), [1, 1], {1: 1},
              object(), len, ValueError, (None,), ((),), ([],), ({},), (1.0, 1.0), (True, True), range(3),
              (1, 1, 1), (1, 1, 1, 1, 1), ("A", "B"), ("error",), (("x",),))


def caught(kind, call, *given, **named):
    """The error of exactly this class that the call raises."""
    try:
        call(*given, **named)
    except kind as error:
        if error.__class__ is not kind:
            raise AssertionError(f"{error.__class__.__name__} instead of {kind.__name__}") from error
        return error
    raise AssertionError(f"{kind.__name__} was not raised")
