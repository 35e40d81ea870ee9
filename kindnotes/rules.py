"""Kind rules, tables of them, and the ways in which a checker can go through a node."""

from itertools import permutations

from kindnotes.errors import BadRule, BadWay, UnknownSign
from kindnotes.kinds import is_form, is_word, sided_letters

PLACES = {"0": 0, "1": 1, "2": 2}


def rule(*places, whole):
    """The rule with these places and this whole."""
    if len(places) > 3 or not all([_is_place(place) for place in places]):
        raise BadRule("a rule has up to three places, each a bound form or None, and a form")
    if not is_form(whole):
        raise BadRule("the whole of a rule is a form")
    return places, whole


class Table:
    """The kind rules of the signs of a language."""

    def __init__(self, stock):
        self.stock = stock
        self.rules = {}

    def __getitem__(self, sign):
        if sign not in self.rules:
            raise UnknownSign(sign)
        return self.rules[sign]

    def __setitem__(self, sign, rule):
        if not is_word(sign) or sign in self.rules or len(self.rules) >= 8:
            raise BadRule("a table has up to eight signs, each a word and there once")
        places, whole = rule
        bounds = [bound for bound, form in places if bound is not None]
        forms = [form for bound, form in places]
        if not all([self.stock.fits(form) for form in [whole, *bounds, *forms]]):
            raise BadRule("a form of the rule does not fit the stock")
        self.rules[sign] = rule

    def __iter__(self):
        return iter(self.rules)


def way(*, whole, places, noted=()):
    """The way with this direction of the whole, these steps and these noted places."""
    steps = tuple([(place, direction) for place, direction in places])
    if not all([direction in ("told", "found") for direction in [whole, *[step[1] for step in steps]]]):
        raise BadWay("a direction is told or found")
    listed = [step[0] for step in steps]
    if len(listed) > 3 or not all([listed.count(place) == 1 for place in range(len(listed))]):
        raise BadWay("the steps take up to three places from 0 on, each once")
    ascending = tuple([place for place in range(len(listed)) if place in noted])
    if len(ascending) != len(noted):
        raise BadWay("the noted places are places of the steps, each once")
    return whole, steps, ascending


def way_text(way):
    """The text of a way, such as "found: 0 found, 1 told; noted 0, 1"."""
    whole, steps, noted = way
    shown = ", ".join([f"{place} {direction}" for place, direction in steps]) if steps else "-"
    text = f"{whole}: {shown}"
    if noted:
        places = ", ".join([str(place) for place in noted])
        text = f"{text}; noted {places}"
    return text


def parse_way(text):
    """The way with this text."""
    whole, _, rest = text.partition(": ")
    shown, _, tail = rest.partition("; noted ")
    steps = [] if shown == "-" else [_parse_step(part) for part in shown.split(", ")]
    noted = [PLACES.get(part) for part in tail.split(", ")] if tail else []
    read = way(whole=whole, places=steps, noted=noted)
    # Only the text that the way itself has will do, not another from which the same way can be read.
    if way_text(read) != text:
        raise BadWay("no way has this text")
    return read


def first_guess(stock, rule, way):
    """The first guess of a way as a pair (step, letter), or None if the way is good."""
    return _guess(stock.flat, _lettered(stock, rule), way)


def good_ways(stock, rule):
    """The good ways of a rule that no other makes needless, one for each choice of directions and notes."""
    lettered = _lettered(stock, rule)
    numbers = list(range(len(rule[0])))
    binding = [place for place in numbers if rule[0][place][0] is not None]
    kept = []
    # A choice comes after all that could make it needless: found wholes before told ones, each set after its subsets.
    # So each way that is kept has a found or the same whole, and only the places are left to compare.
    for whole in ("found", "told"):
        for found in _subsets(numbers):
            for noted in _subsets(binding):
                if not any([_spares(other, found, noted) for other in kept]):
                    kept.extend(_first_good(stock.flat, lettered, (whole, found, noted)))
    return kept


def _is_place(place):
    if not isinstance(place, tuple) or len(place) != 2:
        return False
    bound, form = place
    return (bound is None or is_form(bound)) and is_form(form)


def _parse_step(text):
    """A step, with the place None if there is no such place."""
    place, _, direction = text.partition(" ")
    return PLACES.get(place), direction


def _lettered(stock, rule):
    """The rule with the sided letters of each form in the form's stead."""
    places, whole = rule
    pairs = []
    for bound, form in places:
        letters = [] if bound is None else sided_letters(stock, bound)
        pairs.append((letters, sided_letters(stock, form)))
    return pairs, sided_letters(stock, whole)


def _looks(flat, lettered, way):
    """What a way looks at in turn: (letter, whether from above, step of a use or None, whether an exact source)."""
    places, letters = lettered
    whole, steps, noted = way
    looks = []
    if whole == "told":
        looks.extend(_looks_at(letters, True, None, flat))
    for place in noted:
        looks.extend(_looks_at(places[place][0], False, None, True))
    for step, (place, direction) in enumerate(steps):
        if place not in noted:
            looks.extend(_looks_at(places[place][0], False, step, False))
        if direction == "told":
            looks.extend(_looks_at(places[place][1], True, step, False))
        else:
            looks.extend(_looks_at(places[place][1], False, None, flat))
    if whole == "found":
        looks.extend(_looks_at(letters, False, len(steps), False))
    return looks


def _looks_at(letters, above, step, exact):
    return [(letter, straight == above, step, exact) for letter, straight in letters]


def _guess(flat, lettered, way):
    """The first use that is not sure, as a pair (step, letter), or None."""
    looks = _looks(flat, lettered, way)
    last_source = {look[:2]: at for at, look in enumerate(looks) if look[2] is None}
    known = {}
    given = {}
    taken = {}
    for at, (letter, above, step, exact) in enumerate(looks):
        side = (letter, above)
        if step is None:
            given[side] = True
            if exact:
                known[letter] = True
            continue
        settled = side in given and last_source[side] < at and (letter, not above) not in taken
        if letter not in known and not settled:
            return step, letter
        taken[side] = True
    return None


def _subsets(places):
    """All choices of some of the places, each after the choices of fewer of its places."""
    subsets = [()]
    for place in places:
        subsets = [*subsets, *[(*chosen, place) for chosen in subsets]]
    return subsets


def _spares(other, found, noted):
    """Whether another way has no found or noted place beyond these."""
    more_found = [place for place, direction in other[1] if direction == "found" and place not in found]
    more_noted = [place for place in other[2] if place not in noted]
    return not more_found and not more_noted


def _first_good(flat, lettered, choice):
    """A list of the first way of a choice that is good, if there is one."""
    whole, found, noted = choice
    steps = [(place, "found" if place in found else "told") for place in range(len(lettered[0]))]
    for order in permutations(steps):
        made = way(whole=whole, places=order, noted=noted)
        if _guess(flat, lettered, made) is None:
            return [made]
    return []
