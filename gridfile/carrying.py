"""Which lines of a canonical file carry which things of its book: those of the chain from the first line to its own.

Lines are pairs (path, number).
"""

from gridfile.links import START, links_of
from gridfile.places import places_in
from gridfile.tables import PART_SORTS


def carriers_in(outline):
    """The ascending lists of the lines that carry each thing, by the things, in no order."""
    found = {}
    path = outline.book_path
    leads = {told[2]: (links_of(path), number) for number, told in outline.told_in(links_of(path))}
    texts = {told[1]: [leads[outline.strings_path], (outline.strings_path, number)]
             for number, told in outline.told_in(outline.strings_path)}
    styles = _chains_of_styles(outline, leads)
    told_lines = outline.told_in(path)
    names = {told[1]: told[2] for _, told in told_lines if told[0] == "sheet"}
    own = {told[1]: (path, number) for number, told in told_lines if told[0] == "sheet"}
    for number, told in told_lines:
        lines = [(START, 2), (path, number)]
        if told[0] == "active":
            found[("active",)] = [*lines, own[told[1]]]
        elif told[0] == "name":
            found[("name", names.get(told[1]), told[2])] = lines if told[1] is None else [*lines, own[told[1]]]
        else:
            found[("sheet", told[2])] = lines
            if told[4]:
                found[("hidden", told[2])] = lines
            sheet_path = outline.sheet_paths[told[3]]
            _carry_sheet(outline, found, told[2], sheet_path, [*lines, leads[sheet_path]], texts, styles)
    return {thing: sorted(lines) for thing, lines in found.items()}


def _chains_of_styles(outline, leads):
    """For the number of each style row the list of the pairs (sort, lines) of its parts, but of those of PLAIN."""
    path = outline.styles_path
    told_lines = outline.told_in(path)
    own = {told[:2]: (path, number) for number, told in told_lines}
    chains = {}
    for number, told in told_lines:
        if told[0] == "style":
            chains[told[1]] = [(sort, [leads[path], (path, number), own[(sort, part)]])
                               for sort, part in zip(PART_SORTS, told[2]) if part != 0]
    return chains


def _carry_sheet(outline, found, name, path, before, texts, styles):
    """Finds what the lines of a sheet part carry, before being the lines that lead to it."""
    inner = links_of(path)
    targets = {told[1]: (inner, number) for number, told in outline.told_in(inner)}
    for number, told in outline.told_in(path):
        lines = [*before, (path, number)]
        if told[0] == "cell":
            _carry_cell(found, name, told, lines, texts, styles)
        elif told[0] == "formula":
            for place in places_in(told[1]):
                found[("formula", name, place)] = lines
        elif told[0] == "link":
            found[("link", name, told[1])] = [*lines, targets[told[2]]]
        elif told[0] == "merge":
            found[("merge", name, told[1])] = lines
        elif told[0] == "frozen":
            found[("frozen", name)] = lines
        else:
            _carry_settings(found, name, told, lines, styles)


def _carry_cell(found, name, told, lines, texts, styles):
    _, place, value, style = told
    if value is not None:
        is_text = isinstance(value, tuple) and value[0] == "string"
        found[("value", name, place)] = lines + texts[value[1]] if is_text else lines
    for sort, more in styles.get(style, []):
        found[(sort, name, place)] = lines + more


def _carry_settings(found, name, told, lines, styles):
    axis, first, last, size, hidden, style = told
    for number in range(first, last + 1):
        if size is not None:
            found[("size", name, axis, number)] = lines
        if hidden:
            found[("hidden", name, axis, number)] = lines
        for sort, more in styles.get(style, []):
            found[(sort, name, axis, number)] = lines + more
