"""Points: how many of them a guest is sure of, also for boards in great numbers."""

from untoldgames.errors import NoPoints, NoStocks
from untoldgames.kinds import are_numbers, is_name, is_side, is_within
from untoldgames.meeting import boards_at, two_sided
from untoldgames.pairs import pairings

MOST_POINTS = 10 ** 9
MOST_NUMBER = 10 ** 30
MOST_STOCKS = 200


def check_points(hall, points):
    """Raises NoPoints for what is no points for a hall."""
    if not are_numbers(points, len(hall.boards), MOST_POINTS):
        raise NoPoints()


def least_points(points, pairing):
    """The number of points that the boards of each outcome of a pairing have together at least."""
    return sum([min(points[one], points[other]) for one, other in pairing])


def most_points(hall, points):
    """The greatest number of points of which a guest is sure, and a pairing by which it is."""
    check_points(hall, points)
    best = (-1, ())
    for pairing in pairings(hall):
        number = least_points(points, pairing)
        if number > best[0]:
            best = (number, pairing)
    return best


def met_points(hall, points):
    """The greatest number of points that the boards of each choice for all two-sided names have at least."""
    names = two_sided(hall)
    check_points(hall, points)
    total = 0
    for name in names:
        total += min([sum([points[board] for board in boards_at(hall, name, side)]) for side in (0, 1)])
    return total


def is_stock(thing):
    """Tells whether a thing is one of stocks: so many boards of a name, a side and points."""
    if not isinstance(thing, tuple) or len(thing) != 4:
        return False
    name, side, points, number = thing
    return is_name(name) and is_side(side) and is_within(points, 0, MOST_POINTS) and is_within(number, 0, MOST_NUMBER)


def check_stocks(stocks):
    """Raises NoStocks for what is no stocks."""
    if not isinstance(stocks, (list, tuple)) or len(stocks) > MOST_STOCKS:
        raise NoStocks()
    if not all([is_stock(stock) for stock in stocks]):
        raise NoStocks()


def counted(stocks):
    """For each name of some stocks a pair of dicts, one for each side: how many boards there are of some points."""
    found = {name: ({}, {}) for name, _, _, _ in stocks}
    for name, side, points, number in stocks:
        many = found[name][side]
        many[points] = many.get(points, 0) + number
    return found


def paired_points(firsts, seconds):
    """The number of points of which a guest is sure at boards of one name, counted by their points at both sides.

    The best pairing puts the boards of most points together. So for each bound as many pairs have both boards above
    it as there are such boards at the side at which there are fewer.
    """
    total, first, second = 0, 0, 0
    bounds = sorted(set(list(firsts) + list(seconds)))[::-1] + [0]
    for bound, below in zip(bounds, bounds[1:]):
        first += firsts.get(bound, 0)
        second += seconds.get(bound, 0)
        total += min(first, second) * (bound - below)
    return total


def stock_points(stocks):
    """The number of points of which a guest is sure in the hall of all boards of some stocks."""
    check_stocks(stocks)
    return sum([paired_points(firsts, seconds) for firsts, seconds in counted(stocks).values()])


def all_points(many):
    """The sum of the points of boards that are counted by their points."""
    return sum([points * number for points, number in many.items()])


def stock_met(stocks):
    """The number of points of which a guest is sure there with one and the same master at each side."""
    check_stocks(stocks)
    return sum([min(all_points(firsts), all_points(seconds)) for firsts, seconds in counted(stocks).values()])
