"""Orders of parts that change nothing of what an engine reports."""

from batchtests.changes import are_alike, is_joined, with_ways
from batchtests.compare import difference
from batchtests.errors import NoPlace, TooMany
from batchtests.levels import check_level

MOST_TUPLES = 64


def alike_orders(engine, place, level):
    """Return the ascending list of the orders at the place with which the engine is alike."""
    check_level(level)
    check_joined(engine, (place,))
    return [
        order for order in orders_at(engine, place)
        if are_alike(engine, with_orders(engine, (place,), (order,)), level)
    ]


def any_order(engine, places, level):
    """Return the first tuple of orders with which the engine differs and a table, or None."""
    check_level(level)
    check_joined(engine, places)
    for orders in tuples_of_orders(engine, places):
        table = difference(engine, with_orders(engine, places, orders), level)
        if table is not None:
            return (orders, table)
    return None


def check_joined(engine, places):
    """Raise NoPlace if these are not unlike places of "and" and "or"."""
    for index, place in enumerate(places):
        if not is_joined(engine.plan.condition, place) or place in places[:index]:
            raise NoPlace()


def tuples_of_orders(engine, places):
    """Return the ascending list of all tuples with an order for each place, or raise TooMany."""
    tuples = [()]
    for place in places:
        # Each place has one order at least, so what is too many here stays too many.
        tuples = [(*chosen, order) for chosen in tuples for order in orders_at(engine, place)]
        if len(tuples) > MOST_TUPLES:
            raise TooMany(MOST_TUPLES)
    return tuples


def orders_at(engine, place):
    """Return the ascending list of all orders of the parts of the "and" or "or" at the place."""
    many = len(engine.plan.way(place)[1])
    orders = [()]
    for _ in range(many):
        orders = [(*before, index) for before in orders for index in range(many) if index not in before]
    return orders


def with_orders(engine, places, orders):
    """Return the engine with these orders at the places, which keep their ways."""
    ways = {place: (engine.plan.way(place)[0], order) for place, order in zip(places, orders)}
    return with_ways(engine, ways)
