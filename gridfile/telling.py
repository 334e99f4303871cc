"""The lines that tell the parts of a book, in their order, without headers; numbers of things are passed."""

from gridfile.counts import formula_cells
from gridfile.links import relationship_line
from gridfile.places import column_name, place_name, rectangle_name
from gridfile.printing import printed
from gridfile.runs import formula_lines, setting_runs
from gridfile.values import PLAIN


def with_header(word, lines):
    """The lines of a part, header first."""
    return [(word, str(len(lines))), *lines]


def book_lines(book, relationships):
    """The lines of a book, by the row of the numbers of the relationships of its sheets."""
    lines = [] if book.active == 1 else [("active", str(book.active))]
    labels = {None: "-"}
    for at, sheet in enumerate(book.sheets):
        labels[sheet.name] = str(at + 1)
        lines.append(("sheet", str(at + 1), (sheet.name,), f"r{relationships[at]}", *_option(sheet.hidden, "hidden")))
    lines.extend([("name", labels[scope], word, ("=" + printed(tree),)) for scope, word, tree in book.names])
    return lines


def string_lines(texts, before):
    """The lines of a row of texts that are numbered behind so many others."""
    return [(str(before + at + 1), (text,)) for at, text in enumerate(texts)]


def part_lines_of(sort, parts, before):
    """The lines of a row of parts of styles that are numbered behind so many others."""
    return [(sort, str(before + at + 1), *_part_items(sort, part)) for at, part in enumerate(parts)]


def style_lines(rows, before):
    """The lines of style rows that are numbered behind so many others."""
    return [("style", str(before + at + 1), *[str(number) for number in row]) for at, row in enumerate(rows)]


def target_lines(targets, before):
    """The lines of a row of targets that are numbered behind so many others."""
    return [relationship_line(before + at + 1, "outer", target) for at, target in enumerate(targets)]


def sheet_lines(sheet, texts, styles, targets):
    """The lines of a sheet, by the numbers of the texts, of the styles but PLAIN, and of the targets."""
    lines = [] if sheet.frozen == (0, 0) else [("frozen", str(sheet.frozen[0]), str(sheet.frozen[1]))]
    for first, last, *setting in setting_runs(sheet.columns):
        lines.append(("columns", f"{column_name(first)}-{column_name(last)}", *_setting_items(setting, styles)))
    for first, last, *setting in setting_runs(sheet.rows):
        lines.append(("rows", f"{first}-{last}", *_setting_items(setting, styles)))
    for place, value, _, style in sheet.cells:
        if value is not None or style != PLAIN:
            lines.append(("cell", place_name(place), _value_word(value, texts), _style_word(style, styles)))
    for first, last, form in formula_lines(formula_cells(sheet)):
        lines.append(("formula", rectangle_name((*first, *last)), ("=" + printed(form),)))
    lines.extend([("merge", rectangle_name(merge)) for merge in sheet.merges])
    lines.extend([("link", place_name(place), f"r{targets[target]}") for place, target in sheet.links])
    return lines


def _option(is_told, word):
    return (word,) if is_told else ()


def _part_items(sort, part):
    """The items that tell a part of a style."""
    if sort == "format":
        return ((part,),)
    if sort == "font":
        name, size, is_bold, is_italic = part
        return ((name,), str(size), *_option(is_bold, "bold"), *_option(is_italic, "italic"))
    if sort == "fill":
        return (str(part),)
    if sort == "border":
        return tuple([str(edge) for edge in part])
    return (part[0], *_option(part[1], "wrap"))


def _setting_items(setting, styles):
    size, hidden, style = setting
    return ("-" if size is None else str(size), _style_word(style, styles), *_option(hidden, "hidden"))


def _style_word(style, styles):
    return "0" if style == PLAIN else str(styles[style])


def _value_word(value, texts):
    if value is None:
        return "-"
    if isinstance(value, bool):
        return "true" if value else "false"
    if isinstance(value, str):
        return f"s{texts[value]}"
    return "#" + value[1] if isinstance(value, tuple) else str(value)
