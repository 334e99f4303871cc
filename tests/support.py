"""What several tests need."""

# Values that are none of the program's own kinds, for the checks of values of any kind.
ODD_VALUES = (None, True, False, 0, 1, -1, 10 ** 400, 1.0, "", "A1", b"A1", (), [], {}, set(), (1,), [1, 1], {1: 1},
              object(), len, ValueError, (None,), ((),), ([],), ({},), (1.0, 1.0), (True, True), range(3),
              (1, 1, 1), (1, 1, 1, 1, 1), ("A", "B"), ("error",), (("x",),))


def caught(kind, call, *given, **named):
    """The error of exactly this class that the call raises."""
    try:
        call(*given, **named)
    except kind as error:
        if error.__class__ is not kind:
            raise AssertionError(f"{error.__class__.__name__} instead of {kind.__name__}") from error
        return error
    raise AssertionError(f"{kind.__name__} was not raised")


LEAVES = (("number", 0), ("number", 7), ("number", 10 ** 15), ("text", ""), ("text", 'a "b"\n'), ("text", "x y"),
          ("truth", True), ("truth", False), ("error", "NAME"), ("error", "VALUE"), ("error", "DIV"), ("lost",),
          ("name", "rate"), ("name", "_"), ("call", "F", ()), ("call", "A1", ()))
SIGNS = ("=", "<>", "<", "<=", ">", ">=", "&", "+", "-", "*", "/", "^")
SHEETS = (None, None, "Data", "a b", "A1", "R")


def random_part(chance):
    return (chance.randint(1, 9999), chance.randint(1, 702), chance.random() < 0.5, chance.random() < 0.5)


def random_tree(chance, deep):
    """A tree that is at most so deep; it can be too heavy if it is deeper than 5."""
    drawn = chance.random()
    if deep == 1 or drawn < 0.15:
        if chance.random() < 0.5:
            return chance.choice(LEAVES)
        if chance.random() < 0.5:
            return ("cell", chance.choice(SHEETS), random_part(chance))
        return ("range", chance.choice(SHEETS), random_part(chance), random_part(chance))
    if drawn < 0.65:
        return ("op", chance.choice(SIGNS), random_tree(chance, deep - 1), random_tree(chance, deep - 1))
    if drawn < 0.85:
        return ("minus", random_tree(chance, deep - 1))
    return ("call", "SUM", tuple(random_tree(chance, deep - 1) for _ in range(chance.randint(0, 3))))
