"""Greatest matchings between two sides, the left and the right ones, and the least sets that meet all ways.

Ways are a list: its item at a left one is the list of the right ones that can be its mates. Both sides are numbered
from 0.
"""


def mates_of(ways, many):
    """The list of the mates of the left ones in a greatest matching with so many right ones; None is no mate."""
    mates = [None] * len(ways)
    takers = [None] * many
    layers = _layers_of(ways, mates, takers)
    while layers is not None:
        # How many of its ways each left one has tried; a way that failed once fails for these layers.
        tried = [0] * len(ways)
        for left, mate in enumerate(list(mates)):
            if mate is None:
                _find_mate(left, ways, mates, takers, layers, tried)
        layers = _layers_of(ways, mates, takers)
    return mates


def right_most_cover(ways, mates, many):
    """The pair of lists of bools of the left and the right ones in the least set with the fewest left ones.

    A right one without a mate is in no least set, so all left ones beside it are in each of them, so their mates are in
    none, and so on. The set with only these left ones has, of all other mates, the right ones.
    """
    beside = [[] for _ in range(many)]
    for left, rights in enumerate(ways):
        for right in rights:
            beside[right].append(left)
    mated = {mate: True for mate in mates if mate is not None}
    is_in = [False] * len(ways)
    is_out = [right not in mated for right in range(many)]
    waiting = [right for right in range(many) if is_out[right]]
    while waiting != []:
        right = waiting.pop()
        for left in beside[right]:
            if not is_in[left]:
                is_in[left] = True
                is_out[mates[left]] = True
                waiting.append(mates[left])
    return is_in, [not out for out in is_out]


def _layers_of(ways, mates, takers):
    """How many mates each left one is away from one without a mate, or None if no more mates can be found."""
    layers = [0 if mate is None else None for mate in mates]
    layer = [left for left, mate in enumerate(mates) if mate is None]
    depth = 0
    is_found = False
    while layer != [] and not is_found:
        depth += 1
        following = []
        for left in layer:
            for right in ways[left]:
                taker = takers[right]
                if taker is None:
                    is_found = True
                elif layers[taker] is None:
                    layers[taker] = depth
                    following.append(taker)
        layer = following
    return layers if is_found else None


def _find_mate(start, ways, mates, takers, layers, tried):
    """Finds a mate for a left one, if the layers have a way, and gives others on this way other mates."""
    way = [start]
    while way != []:
        left = way[-1]
        if tried[left] == len(ways[left]):
            way.pop()
        else:
            right = ways[left][tried[left]]
            tried[left] += 1
            taker = takers[right]
            if taker is None:
                _take_tried(way, ways, mates, takers, tried)
                return
            if layers[taker] == layers[left] + 1:
                way.append(taker)


def _take_tried(way, ways, mates, takers, tried):
    """Gives each left one of a way the right one that it tried last."""
    for left in way:
        right = ways[left][tried[left] - 1]
        mates[left] = right
        takers[right] = left
