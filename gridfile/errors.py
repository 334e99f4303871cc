"""The errors of the program: three families, each class with its fields."""


class GridError(ValueError):
    """What was given is not as the document describes it."""


class BadPlace(GridError):
    """No place of the grid, no number of a column or row, or no name of a place."""

    def __init__(self, given):
        self.given = given


class BadRectangle(GridError):
    """No rectangle of the grid, or no name of one."""

    def __init__(self, given):
        self.given = given


class BadLine(GridError):
    """No line; or the index at which a written line is wrong."""

    def __init__(self, given):
        self.given = given


class BadSheetName(GridError):
    """No name of a sheet."""

    def __init__(self, given):
        self.given = given


class BadWord(GridError):
    """Not one of the words that are allowed here."""

    def __init__(self, given):
        self.given = given


class BadValue(GridError):
    """No value of a cell."""

    def __init__(self, given):
        self.given = given


class BadStyle(GridError):
    """No style."""

    def __init__(self, given):
        self.given = given


class BadFile(GridError):
    """No file, or the first wrong path of one."""

    def __init__(self, given):
        self.given = given


class BadBook(GridError):
    """No book."""

    def __init__(self, given):
        self.given = given


class BadSheet(GridError):
    """No sheet."""

    def __init__(self, given):
        self.given = given


class BadEdit(GridError):
    """No edit."""

    def __init__(self, given):
        self.given = given


class BadNumber(GridError):
    """No number, or no part, that is allowed here."""

    def __init__(self, given):
        self.given = given


class BadPath(GridError):
    """No path of a file part."""

    def __init__(self, given):
        self.given = given


class BadMap(GridError):
    """No edit map, or no number map."""

    def __init__(self, given):
        self.given = given


class BadThings(GridError):
    """No list of things."""

    def __init__(self, given):
        self.given = given


class BadTree(GridError):
    """No tree, or one that cannot stand here."""

    def __init__(self, given):
        self.given = given


class BadForm(GridError):
    """No relative form."""

    def __init__(self, given):
        self.given = given


class BadFormula(GridError):
    """No formula: the place at which the text is wrong."""

    def __init__(self, place):
        self.place = place


class BadCells(GridError):
    """The index of the first wrong cell."""

    def __init__(self, at):
        self.at = at


class BadMerges(GridError):
    """The index of the first wrong merge."""

    def __init__(self, at):
        self.at = at


class BadColumns(GridError):
    """The index of the first wrong setting of a column."""

    def __init__(self, at):
        self.at = at


class BadRows(GridError):
    """The index of the first wrong setting of a row."""

    def __init__(self, at):
        self.at = at


class BadLinks(GridError):
    """The index of the first wrong link."""

    def __init__(self, at):
        self.at = at


class BadSheets(GridError):
    """The index of the first wrong sheet."""

    def __init__(self, at):
        self.at = at


class BadNames(GridError):
    """The index of the first wrong defined name."""

    def __init__(self, at):
        self.at = at


class BadTable(GridError):
    """The index of the first wrong thing of a table."""

    def __init__(self, at):
        self.at = at


class BadPaper(GridError):
    """The index of the first wrong row of a paper."""

    def __init__(self, at):
        self.at = at


class BadFrozen(GridError):
    """No pair of frozen rows and columns."""

    def __init__(self, given):
        self.given = given


class BadActive(GridError):
    """No number of a sheet that can be active."""

    def __init__(self, given):
        self.given = given


class BadHidden(GridError):
    """Neither True nor False."""

    def __init__(self, given):
        self.given = given


class Absent(LookupError):
    """What is asked for is not there."""


class NoSheet(Absent):
    """No sheet with this name or number."""

    def __init__(self, given):
        self.given = given


class NoName(Absent):
    """No defined name of this scope and word."""

    def __init__(self, given):
        self.given = given


class NoMerge(Absent):
    """No merge with this rectangle."""

    def __init__(self, given):
        self.given = given


class NoLine(Absent):
    """No line with this number in this part."""

    def __init__(self, path, number):
        self.path = path
        self.number = number


class NoPart(Absent):
    """No part with this path, or no tree to which the path leads."""

    def __init__(self, path):
        self.path = path


class NothingToUndo(Absent):
    """Not so many edits were done: how many there are."""

    def __init__(self, done):
        self.done = done


class Refused(RuntimeError):
    """What is asked for would break a condition."""


class TooMuch(Refused):
    """More than so many of a kind."""

    def __init__(self, most):
        self.most = most


class TooGreat(Refused):
    """Something would come to be too great."""

    def __init__(self, word):
        self.word = word


class RingOfNames(Refused):
    """Defined names would use each other in a ring."""

    def __init__(self, ring):
        self.ring = ring


class Taken(Refused):
    """A name or place that another one has."""

    def __init__(self, given):
        self.given = given


class Dangling(Refused):
    """A name to which a reference leads already."""

    def __init__(self, given):
        self.given = given


class PastBorder(Refused):
    """Something would leave the grid."""

    def __init__(self, place):
        self.place = place


class Covered(Refused):
    """A place that a merge covers."""

    def __init__(self, place):
        self.place = place


class StillActive(Refused):
    """The active sheet stays."""

    def __init__(self, given):
        self.given = given


class Conflict(Refused):
    """Two edits that cannot be brought together."""

    def __init__(self, word):
        self.word = word
