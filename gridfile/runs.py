"""Runs of settings, and formula lines: joins, crossings, greatest matchings and the canonical lines."""

from gridfile.checks import is_integer, is_row, is_tuple_of
from gridfile.errors import BadCells, BadColumns, BadPaper
from gridfile.matchings import mates_of, right_most_cover
from gridfile.parts import is_setting, wrong_setting
from gridfile.places import MOST_ROW, is_place
from gridfile.trees import is_form


def setting_runs(settings):
    """The list of the runs (first, last, size, hidden, style) of the settings of columns or rows."""
    wrong = wrong_setting(settings, MOST_ROW)
    if wrong is not None:
        raise BadColumns(wrong[0])
    runs = []
    for number, size, hidden, style in settings:
        if runs != [] and runs[-1][1:] == (number - 1, size, hidden, style):
            runs[-1] = (runs[-1][0], number, size, hidden, style)
        else:
            runs.append((number, number, size, hidden, style))
    return runs


def settings_of(runs):
    """The tuple of the settings of runs, in any division."""
    if not is_row(runs):
        raise BadColumns(None)
    settings = []
    for at, run in enumerate(runs):
        if not _is_run(run) or settings != [] and run[0] <= settings[-1][0]:
            raise BadColumns(at)
        settings.extend([(number, *run[2:]) for number in range(run[0], run[1] + 1)])
    return tuple(settings)


def joins_of(cells):
    """The list of the joins of formula cells, ascending."""
    _check_cells(cells)
    downs, alongs = _joins_in(cells)
    return sorted(downs + alongs)


def crosses(one, other):
    """Whether two joins cross."""
    if not _is_join(one) or not _is_join(other):
        raise BadCells(None)
    return _is_down(one) != _is_down(other) and any([place in other for place in one])


def greatest_matching(cells):
    """The tuple of the pairs (join down, join along) of a greatest matching, ascending."""
    _check_cells(cells)
    downs, alongs = _joins_in(cells)
    mates = mates_of(_ways(downs, alongs), len(alongs))
    return tuple(sorted([(downs[at], alongs[mate]) for at, mate in enumerate(mates) if mate is not None]))


def given_up(cells):
    """The list of the joins that the canonical lines give up, ascending."""
    _check_cells(cells)
    return _given_up_in(cells)


def fewest_lines(cells):
    """The least number of formula lines for these cells."""
    _check_cells(cells)
    downs, alongs = _joins_in(cells)
    mates = mates_of(_ways(downs, alongs), len(alongs))
    return len(cells) - len(downs) - len(alongs) + len([mate for mate in mates if mate is not None])


def formula_lines(cells):
    """The list of the canonical lines (first place, last place, form), ascending."""
    _check_cells(cells)
    lost = {join: True for join in _given_up_in(cells)}
    downs, alongs = _joins_in(cells)
    following = {first: second for first, second in downs + alongs if (first, second) not in lost}
    inner = {second: True for second in following.values()}
    lines = []
    for place, form in cells:
        if place not in inner:
            last = place
            while last in following:
                last = following[last]
            lines.append((place, last, form))
    return lines


def line_cells(lines):
    """The list of the formula cells of lines, in any division and order, ascending."""
    if not is_row(lines):
        raise BadCells(None)
    forms = {}
    for at, line in enumerate(lines):
        if not _is_line(line):
            raise BadCells(at)
        for place in _places_of(line):
            if place in forms:
                raise BadCells(at)
            forms[place] = line[2]
    return [(place, forms[place]) for place in sorted(forms)]


def check_matching(cells, pairs):
    """The number of lines that a matching shows to be needed: cells - joins + pairs."""
    _check_cells(cells)
    if not isinstance(pairs, tuple):
        raise BadPaper(None)
    downs, alongs = _joins_in(cells)
    # Whether a join was in a pair already.
    is_used = {join: False for join in downs + alongs}
    for at, pair in enumerate(pairs):
        if not _is_crossing(pair) or any([is_used.get(join, True) for join in pair]):
            raise BadPaper(at)
        for join in pair:
            is_used[join] = True
    return len(cells) - len(is_used) + len(pairs)


def _is_run(value):
    if not is_tuple_of(value, 5) or not is_integer(value[1], 1, MOST_ROW):
        return False
    return is_setting((value[0], *value[2:]), value[1])


def _check_cells(cells):
    """Raises the error of what is no row of formula cells, ascending by their places."""
    if not is_row(cells):
        raise BadCells(None)
    before = None
    for at, cell in enumerate(cells):
        if not is_tuple_of(cell, 2) or not is_place(cell[0]) or not is_form(cell[1]):
            raise BadCells(at)
        if before is not None and cell[0] <= before:
            raise BadCells(at)
        before = cell[0]


def _joins_in(cells):
    """The pair of the lists of the joins down and along, each in the order of the cells."""
    forms = {place: form for place, form in cells}
    downs = []
    alongs = []
    for place, form in cells:
        below = (place[0] + 1, place[1])
        beside = (place[0], place[1] + 1)
        if below in forms and forms[below] == form:
            downs.append((place, below))
        if beside in forms and forms[beside] == form:
            alongs.append((place, beside))
    return downs, alongs


def _ways(downs, alongs):
    """For each join down the list of the indexes of the joins along that it crosses."""
    at_place = {}
    for at, join in enumerate(alongs):
        for place in join:
            at_place.setdefault(place, []).append(at)
    return [[*at_place.get(first, []), *at_place.get(second, [])] for first, second in downs]


def _given_up_in(cells):
    downs, alongs = _joins_in(cells)
    ways = _ways(downs, alongs)
    down_in, along_in = right_most_cover(ways, mates_of(ways, len(alongs)), len(alongs))
    return sorted([join for at, join in enumerate(downs) if down_in[at]]
                  + [join for at, join in enumerate(alongs) if along_in[at]])


def _is_down(join):
    return join[0][1] == join[1][1]


def _is_join(value):
    """Whether a value of any kind is a pair of neighboring places, the second below or right of the first."""
    if not is_tuple_of(value, 2) or not is_place(value[0]) or not is_place(value[1]):
        return False
    row, column = value[0]
    return value[1] in ((row + 1, column), (row, column + 1))


def _is_crossing(value):
    """Whether a value of any kind is a pair of crossing joins, down and along."""
    if not is_tuple_of(value, 2) or not _is_join(value[0]) or not _is_join(value[1]):
        return False
    return _is_down(value[0]) and crosses(value[0], value[1])


def _is_line(value):
    """Whether a value of any kind is a formula line."""
    if not is_tuple_of(value, 3) or not is_place(value[0]) or not is_place(value[1]) or not is_form(value[2]):
        return False
    first, last = value[:2]
    return first <= last and (first[0] == last[0] or first[1] == last[1])


def _places_of(line):
    """The list of the places of a line."""
    first, last = line[:2]
    return [(row, column) for row in range(first[0], last[0] + 1) for column in range(first[1], last[1] + 1)]
