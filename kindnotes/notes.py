"""Where notes can stand in a program, and which of them a checker needs at the least price."""

from kindnotes.errors import BadPrices
from kindnotes.needs import core_prices, part_prices
from kindnotes.passing import standing_still
from kindnotes.programs import built, check_ways, laid_out, spots_of


def spots(program):
    """The spots of a program in the order of the walk."""
    return [spot for spot, _ in spots_of(laid_out(program))]


class Notes:
    """The notes that can be added to a program, each at a price."""

    def __init__(self, book, program, prices=None):
        self.book = book
        self.rows = built(book.table, program)
        check_ways(book, self.rows)
        self.spots = spots_of(self.rows)
        if prices is None:
            prices = [1 for _ in self.spots]
        _check_prices(prices, len(self.spots))
        self.prices = list(prices)

    def least(self, *, told=False):
        """The least price of the notes with which the checker passes."""
        return self._plan(told).total()

    def lots(self, *, told=False):
        """The least lots, ascending."""
        plan = self._plan(told)
        least = plan.total()
        lot = plan.completed(0, least)
        while lot is not None:
            yield lot
            lot = plan.following(least)

    def still(self, lot, *, told=False):
        """The spot at which the checker stands still with notes at these spots too, or None."""
        check_ways(self.book, self.rows)
        noted = {spot: True for spot, stands in self.spots if stands}
        for index in lot:
            noted[self.spots[index][0]] = True
        return standing_still(self.book, self.rows, noted, told)

    def _plan(self, told):
        check_ways(self.book, self.rows)
        return Plan(self.book, self.rows, self.prices, told)


class Plan:
    """Some notes that are bought, some that are barred, and the least price to pass with these and others."""

    def __init__(self, book, rows, prices, told):
        self.book = book
        self.told = told
        self.cores = {row[0]: row[1] for row in rows}
        self.asked = list(prices)
        self.beyond = 1 + sum(prices)
        self.spots = []
        self.free = []
        self.prices = {}
        for index, (spot, stands) in enumerate(spots_of(rows)):
            self.spots.append(spot)
            self.prices[spot] = 0 if stands else prices[index]
            # A note that stands is not bought again, and a note around a name helps nobody.
            if not stands and not (spot[1] is None and isinstance(self.cores[spot[0]], str)):
                self.free.append(index)
        self.spent = [0 for _ in prices]
        self.costs = part_prices(book, rows, self.prices)

    def total(self):
        """The price of what is bought and of the cheapest notes that must be added to it."""
        told, found = self.costs[()]
        return sum(self.spent) + (told if self.told else found)

    def completed(self, start, least):
        """The first lot at this price, when all free spots from the start on may be decided."""
        for index in self.free[start:]:
            self._put(index, 0, self.asked[index])
            if self.total() > least:
                self._put(index, self.beyond, 0)
        return tuple([index for index in self.free if self.spent[index]])

    def following(self, least):
        """The lot at this price that comes after the one that is bought, or None."""
        for at in reversed(range(len(self.free))):
            index = self.free[at]
            if self.spent[index]:
                self._put(index, self.beyond, 0)
                if self.total() == least:
                    return self.completed(at + 1, least)
            self._put(index, self.asked[index], 0)
        return None

    def _put(self, index, price, spent):
        """Give a spot another price, where a note costs nothing once it is bought."""
        self.spent[index] = spent
        path = self.spots[index][0]
        self.prices[self.spots[index]] = price
        costs = core_prices(self.book, path, self.cores[path], self.prices, self.costs)
        while costs != self.costs[path]:
            self.costs[path] = costs
            path = path[:-1]
            costs = core_prices(self.book, path, self.cores[path], self.prices, self.costs)


def _check_prices(prices, count):
    if not isinstance(prices, (list, tuple)) or len(prices) != count or not all([_is_price(price) for price in prices]):
        raise BadPrices("each spot has a price, an integer from 1 to 99")


def _is_price(price):
    return isinstance(price, int) and not isinstance(price, bool) and 1 <= price <= 99
