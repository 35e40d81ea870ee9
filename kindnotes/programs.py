"""The parts of a program, in the order of the walk, and whether they are built as a table asks.

A part is laid out as a row (path, core, note, name, name_note): the core is the name or the node that is left without
the note around it; the name and its note are those that the part's block binds. A note that is not there is None.
"""

from kindnotes.errors import BadKind, BadProgram, NoWay, UnknownSign
from kindnotes.kinds import check_kind, is_kind, is_word


def laid_out(program):
    """The rows of all parts of a program, which is checked as far as that needs no table."""
    rows = []
    todo = [((), program, None, None)]
    while todo:
        path, part, name, name_note = todo.pop()
        core, note = _parted(part)
        _check_core(core)
        rows.append((path, core, note, name, name_note))
        if not isinstance(core, str):
            below = [(path + (place,), block[2], block[0], block[1]) for place, block in enumerate(core[1:])]
            todo.extend(below[::-1])
    return rows


def built(table, program):
    """The rows of all parts of a program that is built as the table asks."""
    rows = laid_out(program)
    for _, core, note, _, name_note in rows:
        for kind in [note, name_note]:
            if kind is not None:
                check_kind(table.stock, kind)
        if not isinstance(core, str):
            _check_node(table, core)
    return rows


def check_ways(book, rows):
    """Refuse a book without ways for the sign of a node."""
    for _, core, _, _, _ in rows:
        if not isinstance(core, str) and not book[core[0]]:
            raise NoWay(core[0])


def check_all_ways(book):
    """Refuse a book without ways for a sign of its table."""
    for sign in book:
        if not book[sign]:
            raise NoWay(sign)


def spots_of(rows):
    """All spots, each as a pair (spot, whether a note stands there), in the order of the walk."""
    spots = []
    for path, _, note, name, name_note in rows:
        if name is not None:
            spots.append(((path[:-1], path[-1]), name_note is not None))
        spots.append(((path, None), note is not None))
    return spots


def noted_spots(rows):
    """A dict that has the spots where notes stand."""
    return {spot: True for spot, stands in spots_of(rows) if stands}


def free_names(rows):
    """The free names in the order of the walk, as often as they stand there."""
    free = []
    hidden = {}
    for path, core, _, name, _ in rows:
        outer = hidden[path[:-1]] if path else ()
        hidden[path] = outer if name is None else (*outer, name)
        if isinstance(core, str) and core not in hidden[path]:
            free.append(core)
    return free


def _parted(part):
    """The name or node of a part, and the note around it or None."""
    if not isinstance(part, tuple) or part[:1] != (":",):
        return part, None
    if len(part) != 3:
        raise BadProgram("a noted part is a colon, a part and a kind")
    if not is_kind(part[2]):
        raise BadKind("a note is a kind")
    return part[1], part[2]


def _check_core(core):
    """Refuse what is neither a name nor a node."""
    if isinstance(core, str):
        if not is_word(core):
            raise BadProgram("a name is a word")
        return
    if not isinstance(core, tuple) or not core or not isinstance(core[0], str):
        raise BadProgram("a part is a name, a node or a noted part")
    if core[0] == ":":
        raise BadProgram("a note stands around another")
    if not is_word(core[0]):
        raise UnknownSign(core[0])
    for block in core[1:]:
        _check_block(block)


def _check_block(block):
    if not isinstance(block, tuple) or len(block) != 3:
        raise BadProgram("a block is a name, a note and a part")
    name, note, _ = block
    if name is None:
        if note is not None:
            raise BadProgram("a place that binds no name has no note for it")
        return
    if not is_word(name):
        raise BadProgram("a bound name is a word")
    if note is not None and not is_kind(note):
        raise BadKind("a note is a kind")


def _check_node(table, node):
    """Refuse a node that does not have the blocks that its rule asks for."""
    places, _ = table[node[0]]
    if len(node) - 1 != len(places):
        raise BadProgram("a node has a block for each place of its rule")
    for (bound, _), block in zip(places, node[1:]):
        if (bound is None) != (block[0] is None):
            raise BadProgram("a block has a bound name where its place binds one, and nowhere else")
