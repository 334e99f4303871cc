"""What several tests need."""

import re

from gridfile.errors import RingOfNames
from gridfile.forms import absolute, relative
from gridfile.lines import line_text, lines_of
from gridfile.model import Book, Sheet
from gridfile.names import with_name
from gridfile.places import common, places_in, rectangle_at, rectangle_name
from gridfile.values import PLAIN

# Values that are none of the program's own kinds, for the checks of values of any kind.
ODD_VALUES = (None, True, False, 0, 1, -1, 10 ** 400, 1.0, "", "A1", b"A1", (), [], {}, set(), (1,), [1, 1], {1: 1},
              object(), len, ValueError, (None,), ((),), ([],), ({},), (1.0, 1.0), (True, True), range(3),
              (1, 1, 1), (1, 1, 1, 1, 1), ("A", "B"), ("error",), (("x",),))


def caught(kind, call, *given, **named):
    """The error of exactly this class that the call raises."""
    try:
        call(*given, **named)
    except kind as error:
        if error.__class__ is not kind:
            raise AssertionError(f"{error.__class__.__name__} instead of {kind.__name__}") from error
        return error
    raise AssertionError(f"{kind.__name__} was not raised")


LEAVES = (("number", 0), ("number", 7), ("number", 10 ** 15), ("text", ""), ("text", 'a "b"\n'), ("text", "x y"),
          ("truth", True), ("truth", False), ("error", "NAME"), ("error", "VALUE"), ("error", "DIV"), ("lost",),
          ("name", "rate"), ("name", "_"), ("call", "F", ()), ("call", "A1", ()))
SIGNS = ("=", "<>", "<", "<=", ">", ">=", "&", "+", "-", "*", "/", "^")
SHEETS = (None, None, "Data", "a b", "A1", "R")


def random_part(chance):
    return (chance.randint(1, 9999), chance.randint(1, 702), chance.random() < 0.5, chance.random() < 0.5)


def random_tree(chance, deep):
    """A tree that is at most so deep; it can be too heavy if it is deeper than 5."""
    drawn = chance.random()
    if deep == 1 or drawn < 0.15:
        if chance.random() < 0.5:
            return chance.choice(LEAVES)
        if chance.random() < 0.5:
            return ("cell", chance.choice(SHEETS), random_part(chance))
        return ("range", chance.choice(SHEETS), random_part(chance), random_part(chance))
    if drawn < 0.65:
        return ("op", chance.choice(SIGNS), random_tree(chance, deep - 1), random_tree(chance, deep - 1))
    if drawn < 0.85:
        return ("minus", random_tree(chance, deep - 1))
    return ("call", "SUM", tuple(random_tree(chance, deep - 1) for _ in range(chance.randint(0, 3))))


FORMATS = ("", "", "0.0", 'a "b"\\')
FONTS = (("Plain", 10, False, False), ("Plain", 10, False, False), ("Plain", 10, True, False), ("a b", 400, True, True))
FILLS = (None, None, 0, 16777215)
BORDERS = ((0, 0, 0, 0), (0, 0, 0, 0), (1, 2, 0, 3))
ALIGNS = (("general", False), ("general", False), ("left", True), ("center", False))
VALUES = (None, None, True, False, 0, 1, -7, 10 ** 15, -10 ** 15, "", "x", "y", 'a "b"\\\n', "A1", ("error", "REF"), ("error", "NAME"),
          ("error", "VALUE"), ("error", "DIV"))
NAMES = ("Data", "More", "a b", "A1", "R", "Sheet1", "1 + 2")
TARGETS = ("x", "y", 'a "b"\\\n', " ")


def random_style(chance):
    return tuple(chance.choice(parts) for parts in (FORMATS, FONTS, FILLS, BORDERS, ALIGNS))


def plain_or_random_style(chance):
    return random_style(chance) if chance.random() < 0.3 else PLAIN


def small_part(chance, fixed=None):
    """A part near the corner, so that forms and references meet."""
    row_fixed, column_fixed = (fixed, fixed) if fixed is not None else (chance.random() < 0.3, chance.random() < 0.3)
    return (chance.randint(1, 8), chance.randint(1, 5), row_fixed, column_fixed)


def small_tree(chance, sheets, words, fixed=None, deep=2):
    """A tree with references to these sheets and names with these words."""
    drawn = chance.random()
    if deep == 1 or drawn < 0.5:
        if drawn < 0.1:
            return ("number", chance.randint(0, 2))
        if drawn < 0.2 and words:
            return ("name", chance.choice(words))
        sheet = chance.choice(sheets)
        if chance.random() < 0.5:
            return ("cell", sheet, small_part(chance, fixed))
        return ("range", sheet, small_part(chance, fixed), small_part(chance, fixed))
    if drawn < 0.9:
        return ("op", chance.choice("+-*&"), small_tree(chance, sheets, words, fixed, deep - 1),
                small_tree(chance, sheets, words, fixed, deep - 1))
    return ("call", "SUM", (small_tree(chance, sheets, words, fixed, deep - 1),))


def random_settings(chance, most):
    settings = []
    for number in sorted(chance.sample([*range(1, 9), most - 1, most], chance.randint(0, 7))):
        setting = (chance.choice((None, 0, 5, 1000)), chance.random() < 0.3, plain_or_random_style(chance))
        if setting != (None, False, PLAIN):
            settings.append((number, *setting))
            if chance.random() < 0.5 and number < 8:
                settings.append((number + 0.5, *setting))
    # A setting that comes twice makes a run with the next number.
    known = {}
    for number, *setting in settings:
        known.setdefault(int(number + 0.5), tuple(setting))
    return [(number, *known[number]) for number in sorted(known)]


def random_sheet(chance, name, sheets, words):
    """A sheet of some rows and columns with everything that a sheet can have."""
    merges = []
    for _ in range(chance.randint(0, 3)):
        top, left = chance.randint(1, 9), chance.randint(1, 5)
        merge = (top, left, top + chance.randint(0, 2), left + chance.randint(0, 2))
        if merge[:2] != merge[2:] and not any(common(merge, one) for one in merges):
            merges.append(merge)
    covered = [place for merge in merges for place in places_in(merge) if place != merge[:2]]
    cells, links = {}, {}
    for _ in range(chance.choice((0, 3, 12))):
        place = (chance.randint(1, 9), chance.randint(1, 5))
        free = place not in covered
        formula = small_tree(chance, [None, None, *sheets], words) if free and chance.random() < 0.3 else None
        cells[place] = (chance.choice(VALUES) if free else None, formula, plain_or_random_style(chance))
        if free and chance.random() < 0.2:
            links[place] = chance.choice(TARGETS)
    if chance.random() < 0.5:
        form = relative(small_tree(chance, [None, *sheets], words), (1, 1))
        for place in places_in((3, 2, 3 + chance.randint(0, 3), 2 + chance.randint(0, 3))):
            if place not in covered and chance.random() < 0.9:
                value, _, style = cells.get(place, (None, None, PLAIN))
                cells[place] = (value, absolute(form, place), style)
    return Sheet(name, cells=[(place, *cells[place]) for place in sorted(cells) if cells[place] != (None, None, PLAIN)],
                 merges=sorted(merges), columns=random_settings(chance, 702), rows=random_settings(chance, 9999),
                 frozen=chance.choice(((0, 0), (0, 0), (2, 1), (9999, 702))), links=[(place, links[place]) for place in sorted(links)],
                 hidden=chance.random() < 0.3)


def random_book(chance):
    """A book of up to four sheets, with names that use one another."""
    names = chance.sample(NAMES, chance.randint(1, 4))
    words = ["rate", "tax", "total"]
    sheets = [random_sheet(chance, name, [*names, "Gone"], words) for name in names]
    book = Book(sheets, active=chance.randint(1, len(sheets)))
    for _ in range(chance.choice((0, 0, 2, 6))):
        scope = chance.choice([None, *names])
        tree = small_tree(chance, [*names, "Gone"] if scope is None else [None, *names], words, True)
        try:
            book = with_name(book, scope, chance.choice(words), tree)
        except RingOfNames:
            pass
    return book


def random_edit(chance, book):
    """An edit that has the form of one, mostly of what is in the book."""
    sheet = chance.choice(book.sheets)
    name = sheet.name
    axis = chance.choice(("rows", "columns"))
    at = chance.choice((1, 2, 3, 4, 5, 6, 7, 8)) if chance.random() < 0.95 else (9999 if axis == "rows" else 702)
    place = (chance.randint(1, 9), chance.randint(1, 5))
    names = [one.name for one in book.sheets]
    other = chance.choice([None, *names])
    word = chance.choice(("cell", "cell", "link", "merge", "split", "setting", "freeze", "hide", "activate", "insert", "insert", "delete",
                          "delete", "add", "remove", "order", "rename", "name", "name"))
    if word == "cell":
        formula = small_tree(chance, [None, *names, "Gone"], ["rate", "tax"]) if chance.random() < 0.4 else None
        return (word, name, place, chance.choice(VALUES), formula, plain_or_random_style(chance))
    if word == "link":
        return (word, name, place, chance.choice([None, *TARGETS]))
    if word == "merge":
        merge = (*place, place[0] + chance.randint(0, 2), place[1] + chance.randint(0, 2))
        return (word, name, merge if merge[:2] != merge[2:] else (*place, place[0] + 1, place[1]))
    if word == "split":
        return (word, name, chance.choice(sheet.merges or [(1, 1, 2, 2)]))
    if word == "setting":
        return (word, name, axis, at, chance.choice((None, 0, 5)), chance.random() < 0.3, plain_or_random_style(chance))
    if word == "freeze":
        return (word, name, chance.randint(0, 9), chance.randint(0, 6))
    if word == "hide":
        return (word, name, chance.random() < 0.5)
    if word in ("activate", "remove"):
        return (word, name)
    if word in ("insert", "delete"):
        return (word, name, axis, at, 1 if at > 9 else chance.randint(1, 4))
    if word in ("add", "rename"):
        new = chance.choice([*NAMES, "New", "Gone", "gone", "Last"])
        return (word, new, other) if word == "add" else (word, name, new)
    if word == "order":
        return (word, name, other if other != name else None)
    scope = chance.choice([None, name])
    tree = small_tree(chance, names if scope is None else [None, *names], ["rate", "tax", "total"], True) if chance.random() < 0.8 else None
    return (word, scope, chance.choice(("rate", "tax", "total")), tree)


def remade(book):
    """The book that is made of the parts of a book, all of them checked."""
    sheets = [Sheet(sheet.name, cells=sheet.cells, merges=sheet.merges, columns=sheet.columns, rows=sheet.rows, frozen=sheet.frozen,
                    links=sheet.links, hidden=sheet.hidden) for sheet in book.sheets]
    return Book(sheets, active=book.active, names=book.names)


def with_right_headers(file):
    """The file with the right numbers of lines in the headers."""
    made = {}
    for path, text in file.items():
        rows = text.split("\n")
        words = rows[0].split(" ")
        made[path] = "\n".join([f"{words[0]} {len(rows) - 1}", *rows[1:]]) if len(words) == 2 else text
    return made


def renumbered(chance, text, pattern):
    """A text in which the numbers that a pattern finds behind its first group are exchanged; the exchange is told too."""
    old = [str(number) for number in range(1, 8)]
    new = list(old)
    chance.shuffle(new)
    numbers = dict(zip(old, new))
    return re.sub(pattern, lambda found: found[1] + numbers.get(found[2], found[2]), text), numbers


def swap_lines(chance, file):
    path = chance.choice([path for path in file if file[path].count("\n") > 1])
    rows = file[path].split("\n")
    at = chance.randrange(1, len(rows) - 1)
    rows[at], rows[at + 1] = rows[at + 1], rows[at]
    file[path] = "\n".join(rows)


def renumber_table(chance, file):
    path, line, use = chance.choice((("strings", r"(?m)^()(\d+)(?= )", r"(?m)^(cell \w+ s)(\d+)"), ("styles", r"(?m)^(style )(\d+)", r"(?m)^((?:cell|columns|rows) \S+ \S+ )(\d+)")))
    file[path], numbers = renumbered(chance, file[path], line)
    for sheet in file:
        if file[sheet].startswith("sheet "):
            file[sheet] = re.sub(use, lambda found: found[1] + numbers.get(found[2], found[2]), file[sheet])
    if chance.random() < 0.5:
        head, *rows = file[path].split("\n")
        rows = sorted(rows, key=lambda row: int(row.split(" ")[0 if path == "strings" else 1]))
        file[path] = "\n".join([head, *sorted(rows, key=lambda row: ("format", "font", "fill", "border", "align", "style").index(row.split(" ")[0]) if path == "styles" else 0)])


def renumber_sheets(chance, file):
    file["book"] = renumbered(chance, file["book"], r"(?m)^(sheet )(\d)(?= )")[0]


def renumber_relationships(chance, file):
    file["book.links"], numbers = renumbered(chance, file["book.links"], r"(?m)^(r)(\d+)")
    file["book"] = re.sub(r'(?m)^(sheet \d+ ".*" r)(\d+)', lambda found: found[1] + numbers.get(found[2], found[2]), file["book"])


def divide_formulas(chance, file):
    """Divides the formula lines of a part into single places, or into other lines."""
    path = chance.choice([path for path in file if "\nformula " in file[path]])
    cells = {}
    for line in lines_of(file[path]):
        if line[0] == "formula":
            cells.update({place: line[2] for place in places_in(rectangle_at(line[1]))})
    rows, step = [], chance.choice(((0, 1), (1, 0)))
    left = dict(sorted(cells.items()))
    while left:
        first = last = next(iter(left))
        text = left.pop(first)
        while left.get((last[0] + step[0], last[1] + step[1])) == text and chance.random() < 0.95:
            last = (last[0] + step[0], last[1] + step[1])
            del left[last]
        rows.append(line_text(("formula", rectangle_name((*first, *last)), text)))
    old = file[path].split("\n")
    at = next(at for at, row in enumerate(old) if row.startswith("formula "))
    file[path] = "\n".join([*old[:at], *rows, *[row for row in old[at:] if not row.startswith("formula ")]])


def divide_runs(chance, file):
    path = chance.choice([path for path in file if file[path].startswith("sheet ")])
    file[path] = re.sub(r"(?m)^rows (\d+)-(\d+) (.*)$", lambda found: found[0] if found[1] == found[2] else
                        f"rows {found[1]}-{found[1]} {found[3]}\nrows {int(found[1]) + 1}-{found[2]} {found[3]}", file[path], count=1)


def reword_formula(chance, file):
    path = chance.choice([path for path in file if '"=' in file[path]])
    file[path] = file[path].replace('"=', chance.choice(('"= ', '"=+', '"=-')), 1)


def add_lines(chance, file):
    path, row = chance.choice((("strings", '98 "q"'), ("styles", 'format 98 "q"'), ("styles", "style 98 0 1 0 0 0"), ("book.links", "r98 sheet x"), ("book", "active 1"), ("sheets/1", "?"),
                               ("sheets/1.links", 'r98 outer "q"')))
    file[path] = f"{file[path]}\n{row}"
    if row.endswith("x"):
        file["x"] = "sheet 0"


def remove_line(chance, file):
    path = chance.choice(list(file))
    rows = file[path].split("\n")
    del rows[chance.randrange(len(rows))]
    file[path] = "\n".join(rows)


def move_part(chance, file):
    path = chance.choice([path for path in file if not path.endswith("links")])
    for end in ("", ".links"):
        if path + end in file:
            file["moved" + end] = file.pop(path + end)
    for inner in file:
        if inner.endswith("links"):
            file[inner] = re.sub(rf"(?m)^(r\d+ \w+ ){re.escape(path)}$", r"\1moved", file[inner])


MUTATIONS = (swap_lines, renumber_table, renumber_table, renumber_sheets, renumber_relationships, divide_formulas, divide_formulas, divide_runs, reword_formula, add_lines, remove_line, move_part)


def mutated(chance, file):
    """A file that differs from a written one as people or other programs could have written it; mostly it is clean."""
    made = dict(file)
    try:
        chance.choice(MUTATIONS)(chance, made)
    except (IndexError, KeyError, ValueError, TypeError):
        # There is nothing of this sort in the file.
        return dict(file)
    return with_right_headers(made) if chance.random() < 0.95 else made
