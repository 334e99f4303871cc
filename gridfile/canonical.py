"""Canonical files: the nine rules, and the lines that break them.

What is broken is told as a triple (path, line number, rule number). A clean file has no lines but headers and kept
ones.
"""

from gridfile.gathering import book_and_complaints
from gridfile.links import START, links_of
from gridfile.outline import Outline
from gridfile.printing import printed
from gridfile.runs import formula_lines, line_cells
from gridfile.tables import PART_SORTS
from gridfile.writing import BOOK_PATH

RULES = ("clean", "paths", "words", "order", "numbers", "use", "needed", "defaults", "least")
# Where the lines of a sort stand among those of their part.
RANKS = {"active": 0, "strings": 0, "styles": 1, "sheet": 2, "name": 3, "book": 0, "string": 0, "format": 0, "font": 1,
         "fill": 2, "border": 3, "align": 4, "style": 5, "frozen": 0, "columns": 1, "rows": 2, "cell": 3, "formula": 4,
         "merge": 5, "link": 6, "outer": 0}
# The sorts of lines that are numbered as they stand; relationships of all types are one sort.
NUMBERED = {"links": ("book",), "parts": ("strings", "styles", "sheet"), "outer": ("outer",), "book": ("sheet",),
            "strings": ("string",), "styles": ("format", "font", "fill", "border", "align", "style"), "sheet": ()}


def breaches(file):
    """The ascending list of the triples (path, line number, rule number) of what breaks a rule, each once."""
    outline = Outline(file)
    _, found = book_and_complaints(outline)
    return broken_in(outline, found)


def is_canonical(file):
    """Whether no line of a file breaks a rule."""
    return breaches(file) == []


def broken_in(outline, found):
    """As breaches, for a file with this outline and these complaints."""
    if found != []:
        return _ascending([(path, line, 1) for path, line, _, _ in found])
    sheets = _paths_of_sheets(outline)
    broken = _break_paths(outline, sheets) + _break_needed_parts(outline, sheets) + _break_defaults(outline)
    for path, part in outline.found.items():
        broken.extend(_break_words(path, part) + _break_order(path, part) + _break_numbers(path, part))
    broken.extend(_break_uses_of_tables(outline, sheets))
    for path in sheets:
        told_lines = outline.told_in(path)
        broken.extend(_break_uses(links_of(path), outline.told_in(links_of(path)), _uses_of_targets(told_lines)))
        broken.extend(_break_least(path, told_lines))
    return _ascending(broken)


def _ascending(broken):
    return sorted({triple: True for triple in broken})


def _told_sheets(outline):
    """What the sheet lines tell, in the order of their numbers."""
    told_lines = [told for _, told in outline.told_in(outline.book_path) if told[0] == "sheet"]
    return sorted(told_lines, key=lambda told: told[1])


def _paths_of_sheets(outline):
    """The paths of the parts of the sheets, in their order."""
    return [outline.sheet_paths[told[3]] for told in _told_sheets(outline)]


def _break_paths(outline, sheets):
    if outline.book_path is None:
        return [(START, 0, 2)]
    right_paths = {outline.book_path: BOOK_PATH, links_of(outline.book_path): links_of(BOOK_PATH),
                   outline.strings_path: "strings", outline.styles_path: "styles"}
    for at, path in enumerate(sheets):
        right_paths[path] = f"sheets/{at + 1}"
        right_paths[links_of(path)] = links_of(f"sheets/{at + 1}")
    broken = [(path, 0, 2) for path, right in right_paths.items() if path in outline.found and path != right]
    return broken if sheets != [] else [*broken, (outline.book_path, 0, 2)]


def _break_words(path, part):
    """Names and formula lines end with the text of their tree or form."""
    return [(path, number, 3) for number, told in part.told if told[0] in ("name", "formula")
            and part.lines[number - 1][-1] != ("=" + printed(told[-1]),)]


def _break_order(path, part):
    broken = []
    above = None
    for number, told in part.told:
        key = _order_key(told)
        if above is not None and key < above:
            broken.append((path, number, 4))
        above = key
    return broken


def _order_key(told):
    rank = RANKS[told[0]]
    if told[0] == "name":
        # Book-wide names come first.
        return (rank, 0 if told[1] is None else told[1], told[2])
    return (rank, told[1])


def _break_numbers(path, part):
    broken = []
    before = {}
    for number, told in part.told:
        if told[0] in NUMBERED[part.kind]:
            sort = told[0] if part.kind == "styles" else part.kind
            if told[1] != before.get(sort, 0) + 1:
                broken.append((path, number, 5))
            before[sort] = told[1]
    return broken


def _break_uses_of_tables(outline, sheets):
    """What rules 6 and 7 say of the lines of tables, and of the relationships of sheets."""
    texts, styles = _uses_of_tables(outline, sheets)
    broken = _break_uses(outline.strings_path, outline.told_in(outline.strings_path), texts)
    parts = _uses_of_parts(outline)
    for sort, uses in (*parts.items(), ("style", styles)):
        told_lines = [row for row in outline.told_in(outline.styles_path) if row[1][0] == sort]
        broken.extend(_break_uses(outline.styles_path, told_lines, uses))
    relationships = {told[3]: at for at, told in enumerate(_told_sheets(outline))}
    if outline.book_path is not None:
        inner = links_of(outline.book_path)
        told_lines = [row for row in outline.told_in(inner) if row[1][0] == "sheet"]
        broken.extend(_break_uses(inner, told_lines, relationships))
    return broken


def _break_uses(path, told_lines, uses):
    """What rules 6 and 7 say of the lines of one sort; uses tells which number is used first, which second .."""
    broken = []
    known = {}
    before = None
    for number, (_, label, words) in told_lines:
        if label not in uses or words in known:
            broken.append((path, number, 7))
        known[words] = True
        if label in uses:
            if before is not None and uses[label] < before:
                broken.append((path, number, 6))
            before = uses[label]
    return broken


def _uses_of_tables(outline, sheets):
    """The pair of the uses of texts and of those of styles, by their numbers."""
    texts, styles = {}, {}
    for path in sheets:
        for sort in ("cell", "columns", "rows"):
            told_lines = [told for _, told in outline.told_in(path) if told[0] == sort]
            for told in sorted(told_lines, key=lambda row: row[1]):
                if told[-1] != 0:
                    styles.setdefault(told[-1], len(styles))
                if sort == "cell" and isinstance(told[2], tuple) and told[2][0] == "string":
                    texts.setdefault(told[2][1], len(texts))
    return texts, styles


def _uses_of_parts(outline):
    """For each sort of parts the uses by style rows, in the order of their lines."""
    uses = {sort: {} for sort in PART_SORTS}
    for _, told in outline.told_in(outline.styles_path):
        if told[0] == "style":
            for sort, number in zip(PART_SORTS, told[2]):
                if number != 0:
                    uses[sort].setdefault(number, len(uses[sort]))
    return uses


def _uses_of_targets(told_lines):
    """The uses of relationships by the links of a sheet."""
    uses = {}
    for told in sorted([told for _, told in told_lines if told[0] == "link"], key=lambda row: row[1]):
        uses.setdefault(told[2], len(uses))
    return uses


def _break_needed_parts(outline, sheets):
    paths = [outline.strings_path, outline.styles_path, *[links_of(path) for path in sheets]]
    return [(path, 0, 7) for path in paths if path in outline.found and outline.told_in(path) == []]


def _break_defaults(outline):
    sheets = _told_sheets(outline)
    return [(outline.book_path, number, 8) for number, told in outline.told_in(outline.book_path)
            if told[0] == "active" and told[1] == sheets[0][1]]


def _break_least(path, told_lines):
    """What rule 9 says of the lines of a sheet."""
    behind = {(told[0], told[2] + 1, *told[3:]): True for _, told in told_lines if told[0] in ("columns", "rows")}
    broken = [(path, number, 9) for number, told in told_lines if told[0] in ("columns", "rows")
              and (told[0], told[1], *told[3:]) in behind]
    lines = {number: (told[1][:2], told[1][2:], told[2]) for number, told in told_lines if told[0] == "formula"}
    ends = {first: (last, form) for first, last, form in formula_lines(line_cells(list(lines.values())))}
    return broken + [(path, number, 9) for number, line in lines.items() if ends.get(line[0]) != line[1:]]
