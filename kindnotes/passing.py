"""How a checker goes through a program: whether it passes, where it stands still, and the ways that it takes.

Here only the notes count that stand somewhere, not their kinds: they are given as a dict that has their spots.
"""


def passing(book, rows, noted):
    """For each path, whether its part passes told a kind, and whether it passes told none."""
    flags = {}
    for path, core, _, _, _ in reversed(list(rows)):
        if isinstance(core, str):
            flags[path] = (True, True)
        else:
            wholes = [way[0] for way in book[core[0]] if _passes(way, path, noted, flags)]
            alone = "found" in wholes
            flags[path] = (len(wholes) > 0, len(wholes) > 0 if (path, None) in noted else alone)
    return flags


def standing_still(book, rows, noted, told):
    """The spot at which a checker stands still, or None if it passes."""
    flags = passing(book, rows, noted)
    cores = {row[0]: row[1] for row in rows}
    path = ()
    while not _is_passed(flags[path], told):
        fitting = _fitting(book, cores[path], told or (path, None) in noted)
        if not fitting:
            return path, None
        bare = _names_without_note(fitting[0], path, noted)
        if bare:
            return path, bare[0]
        path, told = _stuck_parts(fitting[0], path, flags)[0]
    return None


def taken_ways(book, rows, noted, told):
    """The ways that a checker takes that passes, by the paths of the nodes.

    A node comes before its parts, and these come in the order of the steps.
    """
    flags = passing(book, rows, noted)
    cores = {row[0]: row[1] for row in rows}
    taken = {}
    todo = [((), told)]
    while todo:
        path, told = todo.pop()
        if isinstance(cores[path], str):
            continue
        fitting = _fitting(book, cores[path], told or (path, None) in noted)
        taken[path] = [way for way in fitting if _passes(way, path, noted, flags)][0]
        below = _parts(taken[path], path)
        todo.extend(below[::-1])
    return taken


def _is_passed(flags, told):
    return flags[0] if told else flags[1]


def _fitting(book, node, told):
    return [way for way in book[node[0]] if told or way[0] == "found"]


def _parts(way, path):
    """The parts of a node in the order of the steps, as pairs (path, whether it is told a kind)."""
    return [(path + (place,), direction == "told") for place, direction in way[1]]


def _names_without_note(way, path, noted):
    return [place for place in way[2] if (path, place) not in noted]


def _stuck_parts(way, path, flags):
    return [(below, told) for below, told in _parts(way, path) if not _is_passed(flags[below], told)]


def _passes(way, path, noted, flags):
    return not _names_without_note(way, path, noted) and not _stuck_parts(way, path, flags)
