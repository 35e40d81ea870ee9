"""Which of two books needs more notes, and in which bare programs."""

from kindnotes.errors import NoWay
from kindnotes.needs import choices, node_prices

STATES = ((0, 0), (0, 1), (1, 0), (1, 1))
NAME = "x"
HOLE = "hole"
# A tree is a bare program with what is known of it: its state, its told surplus, its sign and the trees of its parts.
NAME_TREE = ((0, 0), 0, None, ())


def own_need(ways, differences):
    """The told and the found need of a bare node, less the told needs of its parts."""
    return node_prices(ways, [1 for _ in differences], [(0, difference) for difference in differences], 1)


class Comparison:
    """What bare programs need in one book more than in another."""

    def __init__(self, one, other):
        self.one = one
        self.other = other
        self.greatest = None
        self.weights = {}
        self.most = None
        self.ring = None
        self.inner = None
        rounds = _rounds(one, other)
        if _still_grows(rounds):
            self._keep_ring(rounds)
        else:
            self._keep_weights(rounds)

    def keeps(self, sign):
        """Whether the weights still hold for bare nodes of a sign if they hold for their parts."""
        for parts, state, own in _moves(self.one, self.other, sign, list(self.weights)):
            surplus = own + sum([self.weights[part] for part in parts])
            if state not in self.weights or surplus > self.weights[state]:
                return False
        return len(self.weights) > 0

    def _keep_weights(self, rounds):
        self.greatest = _greatest(rounds)
        for state, tree in rounds[-1].items():
            self.weights[state] = tree[1]
            if _found_surplus(state, tree[1]) == self.greatest:
                self.most = _program(self.one.table, tree, None)

    def _keep_ring(self, rounds):
        outer, path, inner = _first_growing(rounds)
        self.ring = _program(self.one.table, outer, path)
        self.inner = _program(self.one.table, inner, None)


def compare(one, other):
    """What bare programs need in one book more than in another."""
    return Comparison(one, other)


def greatest_surplus(one, other):
    """The greatest found surplus of a bare program, or None."""
    rounds = _rounds(one, other)
    return None if _still_grows(rounds) else _greatest(rounds)


def least_worse(one, other):
    """A bare program of least size with a found surplus above 0, or None."""
    greatest = greatest_surplus(one, other)
    if greatest is not None and greatest <= 0:
        return None
    return Growth(one, other).first_worse()


def bare_node(table, sign, parts):
    """The node of a sign with these parts and no notes of its own."""
    places, _ = table[sign]
    names = [None if bound is None else NAME for bound, _ in places]
    return (sign, *[(name, None, part) for name, part in zip(names, parts)])


class Growth:
    """Bare programs in the order of their sizes, without those that need no more than a smaller one of their state.

    Each is an item (state, told surplus, size, program).
    """

    def __init__(self, one, other):
        self.table = one.table
        self.moves = {}
        for sign in one:
            for parts, state, own in _moves(one, other, sign, STATES):
                self.moves[sign, parts] = (state, own)
        self.smaller = []
        self.best = {}
        self.waiting = {1: {NAME_TREE[0]: NAME_TREE[1:]}}
        for sign in one:
            if not self.table[sign][0]:
                self._offer(sign, ())

    def first_worse(self):
        """The first program with a found surplus above 0; there must be one."""
        size = 1
        while True:
            ready = self.waiting.pop(size, {})
            for state, (surplus, sign, parts) in ready.items():
                program = NAME if sign is None else bare_node(self.table, sign, [part[3] for part in parts])
                if _found_surplus(state, surplus) > 0:
                    return program
                if state not in self.best or surplus > self.best[state]:
                    self.best[state] = surplus
                    self._combine((state, surplus, size, program))
            size = size + 1

    def _combine(self, item):
        """Offer the nodes that have this item among their parts, with those before it."""
        self.smaller.append(item)
        for sign in self.table:
            count = len(self.table[sign][0])
            for place in range(count):
                for row in choices(self.smaller, count - 1):
                    self._offer(sign, (*row[:place], item, *row[place:]))

    def _offer(self, sign, parts):
        state, own = self.moves[sign, tuple([part[0] for part in parts])]
        surplus = own + sum([part[1] for part in parts])
        if state in self.best and surplus <= self.best[state]:
            return
        size = 1 + sum([part[2] for part in parts])
        entries = self.waiting.setdefault(size, {})
        if state not in entries or surplus > entries[state][0]:
            entries[state] = (surplus, sign, parts)


def _found_surplus(state, surplus):
    return surplus + state[0] - state[1]


def _moves(one, other, sign, states):
    """What a bare node adds to the told surpluses of its parts: rows (states of the parts, state, surplus)."""
    for ways in [one[sign], other[sign]]:
        if not ways:
            raise NoWay(sign)
    moves = []
    for parts in choices(states, len(one.table[sign][0])):
        told, found = own_need(one[sign], [part[0] for part in parts])
        its_told, its_found = own_need(other[sign], [part[1] for part in parts])
        moves.append((parts, (found - told, its_found - its_told), told - its_told))
    return moves


def _rounds(one, other):
    """For each state the heaviest tree, with one more node inside each other from round to round."""
    moves = []
    for sign in one:
        moves.extend([(sign, *move) for move in _moves(one, other, sign, STATES)])
    rounds = [{NAME_TREE[0]: NAME_TREE}]
    # A tree with more nodes inside each other than there are states has a state twice on some path. If what stands
    # between the two adds nothing, a smaller tree is as heavy; so a last round that gains anything shows a ring.
    for _ in range(len(STATES) + 1):
        rounds.append(_heavier(rounds[-1], moves))
    return rounds


def _heavier(trees, moves):
    """The heaviest trees with one more node inside each other."""
    better = {}
    for state in trees:
        better[state] = trees[state]
    for sign, parts, state, own in moves:
        if all([part in trees for part in parts]):
            surplus = own + sum([trees[part][1] for part in parts])
            if state not in better or surplus > better[state][1]:
                better[state] = (state, surplus, sign, tuple([trees[part] for part in parts]))
    return better


def _still_grows(rounds):
    return any([rounds[-1][state][1] > rounds[-2][state][1] for state in rounds[-1]])


def _greatest(rounds):
    return max([int(_found_surplus(state, tree[1])) for state, tree in rounds[-1].items()])


def _inside(tree):
    """The tree and all trees inside it, each with its path."""
    inside = []
    todo = [((), tree)]
    while todo:
        path, part = todo.pop()
        inside.append((path, part))
        todo.extend([(path + (place,), below) for place, below in enumerate(part[3])])
    return inside


def _first_growing(rounds):
    """Of the first round that has such: a tree, the path to a lighter one inside it of the same state, and that one."""
    for trees in rounds:
        for tree in trees.values():
            for _, outer in _inside(tree):
                for path, inner in _inside(outer):
                    if inner[0] == outer[0] and inner[1] < outer[1]:
                        return outer, path, inner
    return None


def _program(table, tree, hole):
    """The program of a tree, with a hole at this path (if it is not None)."""
    _, _, sign, trees = tree
    if hole == ():
        return HOLE
    if sign is None:
        return NAME
    parts = []
    for place, below in enumerate(trees):
        deeper = hole[1:] if hole is not None and hole[0] == place else None
        parts.append(_program(table, below, deeper))
    return bare_node(table, sign, parts)
