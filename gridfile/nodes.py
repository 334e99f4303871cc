"""What stands in a tree or form. Nothing is checked here: the other files pass only right ones."""

LEVELS = {"=": 1, "<>": 1, "<": 1, "<=": 1, ">": 1, ">=": 1, "&": 2, "+": 3, "-": 3, "*": 4, "/": 4, "^": 5}
MINUS_LEVEL = 6
OTHER_LEVEL = 7
REFERENCES = ("cell", "range", "rcell", "rrange")
WEIGHTS = {"number": 16, "text": 2, "truth": 8, "error": 8, "lost": 8, "cell": 15, "range": 31, "rcell": 15,
           "rrange": 31, "name": 20, "call": 22, "op": 4, "minus": 1}
SHEET_WEIGHT = 34


def trees_in(node):
    """The pairs (path, tree) of the trees directly in a tree, from left to right."""
    if node[0] == "op":
        return [((2,), node[2]), ((3,), node[3])]
    if node[0] == "minus":
        return [((1,), node[1])]
    if node[0] == "call":
        return [((2, at), tree) for at, tree in enumerate(node[2])]
    return []


def nodes_of(tree):
    """The pairs (path, tree) of all trees in a tree, itself too, in reading order."""
    found = []
    waiting = [((), tree)]
    while waiting:
        path, node = waiting.pop()
        found.append((path, node))
        for steps, inner in trees_in(node)[::-1]:
            waiting.append((path + steps, inner))
    return found


def own_weight(node):
    """What a tree adds to the weight, without the trees in it."""
    weight = WEIGHTS[node[0]]
    if node[0] == "text":
        return weight + len(node[1]) + node[1].count("\"")
    if node[0] == "call":
        return weight + len(node[2])
    if node[0] in REFERENCES and node[1] is not None:
        return weight + SHEET_WEIGHT
    return weight


def level_in(node):
    """The level of a tree, which tells how closely its sign binds."""
    if node[0] == "op":
        return LEVELS[node[1]]
    return MINUS_LEVEL if node[0] == "minus" else OTHER_LEVEL


def depth_of(node):
    """How deep a tree is."""
    return 1 + max([depth_of(inner) for _, inner in trees_in(node)], default=0)


def with_tree(part, path, other):
    """The tree, or the trees of a call, with another tree where the path leads."""
    if path == ():
        return other
    at = path[0]
    return (*part[:at], with_tree(part[at], path[1:], other), *part[at + 1:])


def with_references(tree, change):
    """The tree with what a function makes of each reference in the place of this one."""
    if tree[0] in REFERENCES:
        return change(tree)
    if tree[0] == "op":
        return ("op", tree[1], with_references(tree[2], change), with_references(tree[3], change))
    if tree[0] == "minus":
        return ("minus", with_references(tree[1], change))
    if tree[0] == "call":
        return ("call", tree[1], tuple([with_references(inner, change) for inner in tree[2]]))
    return tree


def references_of(tree):
    """The pairs (path, reference) of a tree, in reading order."""
    return [(path, node) for path, node in nodes_of(tree) if node[0] in REFERENCES]


def words_of(tree):
    """The words of the names in a tree, ascending."""
    return tuple(sorted({node[1] for _, node in nodes_of(tree) if node[0] == "name"}))


def has_fixed_parts_only(tree):
    """Whether all parts of references in a tree are fixed in both numbers."""
    return all(part[2] and part[3] for _, node in references_of(tree) for part in node[2:])


def with_sheet_name(tree, old, new):
    """The tree with the sheet new in all references that have the sheet old."""
    return with_references(tree, lambda node: (node[0], new, *node[2:]) if node[1] == old else node)


def has_sheet_name(tree, name):
    """Whether a reference in a tree has the sheet with this name."""
    return any([node[1] == name for _, node in references_of(tree)])
