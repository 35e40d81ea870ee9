"""What the document says, word by word and without any thought of speed, for the tests to compare with.

Nothing here uses the package. A table is a dict of rules, a book a dict of tuples of ways.
"""

from itertools import product


class Still(Exception):
    """A checker stands still at a spot."""


class Language:
    """A stock and a table."""

    def __init__(self, shapes, under, rules):
        self.shapes = shapes
        self.under = under
        self.rules = rules

    def is_under(self, low, high):
        """Point 4."""
        if self.shapes[low[0]] == "":
            word = low[0]
            while word != high[0] and word in self.under:
                word = self.under[word]
            return word == high[0]
        if low[0] != high[0]:
            return False
        pairs = [(a, b) if mark == "+" else (b, a) for mark, a, b in zip(self.shapes[low[0]], low[1:], high[1:])]
        return all(self.is_under(a, b) for a, b in pairs)

    def has_kind(self, part, kind, names, universe, known):
        """Point 8, where letters are filled with kinds of the universe."""
        key = (part, kind, tuple(sorted(names.items())))
        if key not in known:
            known[key] = self._has_kind(part, kind, names, universe, known)
        return known[key]

    def _has_kind(self, part, kind, names, universe, known):
        if isinstance(part, str):
            return self.is_under(names[part], kind)
        if part[0] == ":":
            return self.is_under(part[2], kind) and self.has_kind(part[1], part[2], names, universe, known)
        places, whole = self.rules[part[0]]
        letters = sorted({letter for form in forms_of(self.rules[part[0]]) for letter in letters_of(form)})
        for kinds in product(universe, repeat=len(letters)):
            filling = dict(zip(letters, kinds))
            if self.is_under(filled(whole, filling), kind) and all(
                    self._block_fits(place, block, filling, names, universe, known)
                    for place, block in zip(places, part[1:])):
                return True
        return False

    def _block_fits(self, place, block, filling, names, universe, known):
        bound, form = place
        name, note, part = block
        if name is not None:
            worth = filled(bound, filling)
            if note is not None and note != worth:
                return False
            names = {**names, name: worth}
        return self.has_kind(part, filled(form, filling), names, universe, known)


def forms_of(rule):
    places, whole = rule
    return [whole] + [form for place in places for form in place if form is not None]


def letters_of(form):
    return [form] if isinstance(form, str) else [letter for part in form[1:] for letter in letters_of(part)]


def filled(form, filling):
    if isinstance(form, str):
        return filling[form]
    return (form[0], *[filled(part, filling) for part in form[1:]])


def size_of(part):
    """Point 6: nodes, notes and names, but not bound names."""
    if isinstance(part, str):
        return 1
    if part[0] == ":":
        return 1 + size_of(part[1])
    return 1 + sum(size_of(block[2]) + (block[1] is not None) for block in part[1:])


def depth_of(part):
    if isinstance(part, str):
        return 0
    if part[0] == ":":
        return depth_of(part[1])
    return 1 + max([0] + [depth_of(block[2]) for block in part[1:]])


def spots_of(part, path=()):
    """Point 7."""
    if part[0] == ":":
        part = part[1]
    spots = [(path, None)]
    if not isinstance(part, str):
        for at, block in enumerate(part[1:]):
            if block[0] is not None:
                spots.append((path, at))
            spots.extend(spots_of(block[2], (*path, at)))
    return spots


def noted_spots(part, path=()):
    spots = set()
    if part[0] == ":":
        spots.add((path, None))
        part = part[1]
    if not isinstance(part, str):
        for at, block in enumerate(part[1:]):
            if block[1] is not None:
                spots.add((path, at))
            spots |= noted_spots(block[2], (*path, at))
    return spots


def free_names(part, bound=frozenset()):
    if part[0] == ":":
        part = part[1]
    if isinstance(part, str):
        return [] if part in bound else [part]
    return [name for block in part[1:] for name in free_names(block[2], bound | {block[0]})]


def part_at(part, path):
    """The part with this path, without the note around it."""
    if part[0] == ":":
        part = part[1]
    return part if not path else part_at(part[1 + path[0]][2], path[1:])


def taken(book, part, told, notes, path=()):
    """Point 11: the ways that are taken, as a list of pairs (path, way), nodes before their parts; or Still."""
    if part[0] == ":":
        part = part[1]
    if (path, None) in notes:
        told = True
    if isinstance(part, str):
        return []
    first = None
    for way in book[part[0]]:
        if not told and way[0] != "found":
            continue
        try:
            return [(path, way)] + _through(book, part, way, notes, path)
        except Still as still:
            first = first or still
    raise first or Still((path, None))


def _through(book, part, way, notes, path):
    for place in way[2]:
        if (path, place) not in notes:
            raise Still((path, place))
    inside = []
    for place, direction in way[1]:
        inside.extend(taken(book, part[1 + place][2], direction == "told", notes, (*path, place)))
    return inside


def still_at(book, part, told, more=()):
    """The spot at which the checker stands still with notes at some more spots, or None."""
    try:
        taken(book, part, told, noted_spots(part) | set(more))
    except Still as still:
        return still.args[0]
    return None


def least_lots(book, part, told, prices):
    """Point 15: the least price and the lots that have it, by trying them all."""
    spots = spots_of(part)
    lots = {}
    for chosen in product((False, True), repeat=len(spots)):
        lot = tuple(at for at, taken_too in enumerate(chosen) if taken_too)
        price = sum(prices[at] for at in lot)
        if not lots or price <= min(lots):
            if still_at(book, part, told, [spots[at] for at in lot]) is None:
                lots.setdefault(price, []).append(lot)
    return min(lots), sorted(lots[min(lots)])


def needs(book, part):
    """Point 15: the told and the found need, part by part."""
    if part[0] == ":":
        told, _ = needs(book, part[1])
        return told, told
    if isinstance(part, str):
        return 0, 0
    below = [needs(book, block[2]) for block in part[1:]]
    costs = {"told": [], "found": []}
    for whole, steps, noted in book[part[0]]:
        cost = sum(part[1 + place][1] is None for place in noted)
        cost += sum(below[place][direction == "found"] for place, direction in steps)
        costs["told"].append(cost)
        if whole == "found":
            costs["found"].append(cost)
    told = min(costs["told"])
    return told, min(costs["found"] + [told + 1])


def bare_programs(rules, size, known):
    """All bare programs of a size whose names are all x."""
    if size not in known:
        rows = ["x"] if size == 1 else []
        for sign, (places, _) in rules.items():
            for sizes in product(range(1, size), repeat=len(places)):
                if sum(sizes) == size - 1:
                    for parts in product(*[bare_programs(rules, part, known) for part in sizes]):
                        rows.append((sign, *[(bound and "x", None, part) for (bound, _), part in zip(places, parts)]))
        known[size] = rows
    return known[size]


def noted_programs(rules, note, size, known):
    """All programs of a size whose names are all x and whose notes are all one."""
    rows = list(plain_parts(rules, note, size, known))
    if size > 1:
        rows.extend((":", part, note) for part in plain_parts(rules, note, size - 1, known))
    return rows


def plain_parts(rules, note, size, known):
    if size not in known:
        rows = ["x"] if size == 1 else []
        for sign, (places, _) in rules.items():
            for noted in product((False, True), repeat=len(places)):
                if any(taken_too and place[0] is None for taken_too, place in zip(noted, places)):
                    continue
                for sizes in product(range(1, size), repeat=len(places)):
                    if sum(sizes) + sum(noted) == size - 1:
                        for parts in product(*[noted_programs(rules, note, part, known) for part in sizes]):
                            rows.append((sign, *[(bound and "x", note if taken_too else None, part)
                                                 for (bound, _), taken_too, part in zip(places, noted, parts)]))
        known[size] = rows
    return known[size]
