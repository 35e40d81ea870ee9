"""What it costs to add the notes with which a checker passes."""


def node_prices(ways, names, parts, around):
    """The least prices for a node to pass, told a kind and told none.

    The lists give, place by place, the price of a note at the bound name and the two prices of the part; the last
    argument is the price of a note around the node.
    """
    told = None
    found = None
    for whole, steps, noted in ways:
        price = sum([names[place] for place in noted])
        for place, direction in steps:
            price = price + parts[place][0 if direction == "told" else 1]
        if told is None or price < told:
            told = price
        if whole == "found" and (found is None or price < found):
            found = price
    # With a note around it a node is told the note's kind.
    if found is None or told + around < found:
        found = told + around
    return told, found


def core_prices(book, path, core, prices, known):
    """The two prices of a part, from the prices of the spots and those that are known of the parts below."""
    if isinstance(core, str):
        return 0, 0
    places = range(len(core) - 1)
    names = [prices.get((path, place), 0) for place in places]
    parts = [known[path + (place,)] for place in places]
    return node_prices(book[core[0]], names, parts, prices[path, None])


def part_prices(book, rows, prices):
    """The two prices of each part, by its path."""
    known = {}
    for path, core, _, _, _ in reversed(list(rows)):
        known[path] = core_prices(book, path, core, prices, known)
    return known


def choices(options, count):
    """All tuples of so many of the options."""
    rows = [()]
    for _ in range(count):
        rows = [(*row, option) for row in rows for option in options]
    return rows
