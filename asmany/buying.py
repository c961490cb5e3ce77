"""What further pieces cost, and the units to buy for them."""

from asmany.basics import MOST_IN_POOL, are_numbers, is_number
from asmany.errors import InvalidNumber
from asmany.formulas import kinds_of
from asmany.layers import grouped, merged, overlaid
from asmany.pieces import check_pool_of


def price_for(formula, pool, prices, many):
    """The least price of units with which there are so many pieces."""
    check_pool_of(formula, pool)
    check_unit_prices(formula, prices)
    _check_number(many, "many")
    total = 0
    for price, number in _steps_from(formula, pool, prices):
        taken = many if number is None else min(many, number)
        total = total + taken * price
        many = many - taken
    return total


def cheapest(formula, pool, prices, many):
    """Some amounts of units of the least price with which there are so many pieces."""
    check_pool_of(formula, pool)
    check_unit_prices(formula, prices)
    _check_number(many, "many")
    bought = {}
    _buy(formula, _offers(formula, pool, prices), many, bought)
    return tuple([bought[kind] for kind in kinds_of(formula)])


def price_steps(formula, pool, prices):
    """The prices of the first piece and of the further ones, with their numbers."""
    check_pool_of(formula, pool)
    check_unit_prices(formula, prices)
    return tuple(_steps_from(formula, pool, prices))


def most_for(formula, pool, prices, budget):
    """The greatest number of pieces for a budget, None if there is no greatest one."""
    check_pool_of(formula, pool)
    check_unit_prices(formula, prices)
    _check_number(budget, "budget")
    count = 0
    for price, number in _steps_from(formula, pool, prices):
        if price == 0 and number is None:
            return None
        taken = number if price == 0 else budget // price
        if number is None or taken < number:
            return count + taken
        count = count + number
        budget = budget - number * price
    return count


def check_unit_prices(formula, prices):
    """Raise InvalidNumber unless there is a price for one unit of each kind."""
    if not are_numbers(prices, len(kinds_of(formula))) or max(prices) > MOST_IN_POOL:
        raise InvalidNumber("prices")


def _check_number(value, word):
    """Raise InvalidNumber unless the value is a number."""
    if not is_number(value):
        raise InvalidNumber(word)


def _offers(formula, pool, prices):
    """For each kind how much of it there is, and its price."""
    return dict(zip(kinds_of(formula), list(zip(pool, prices))))


def _steps_from(formula, pool, prices):
    """The prices of pieces with their numbers, the last one without end."""
    return [(price[0], number) for price, number in _layers_of(formula, _offers(formula, pool, prices))]


def _layers_of(formula, offers):
    """The prices of the pieces of a part, none less than the one before it."""
    if formula[0] == "kind":
        amount, price = offers[formula[1]]
        return merged([((0,), amount), ((price,), None)])
    if formula[0] == "many":
        return merged(grouped(_layers_of(formula[2], offers), formula[1]))
    rows = [_layers_of(part, offers) for part in formula[1]]
    if formula[0] == "or":
        return _cheapest_first(rows)
    layers = rows[0]
    for row in rows[1:]:
        layers = overlaid(layers, row)
    return merged(layers)


def _cheapest_first(rows):
    """The layers of all rows up to the first one without end."""
    price = min([row[-1][0] for row in rows])
    cheaper = [layer for row in rows for layer in row if layer[0] < price]
    return merged([*sorted(cheaper), (price, None)])


def _buy(formula, offers, many, bought):
    """Put into the dict what a part needs for so many pieces, by the least price."""
    if formula[0] == "kind":
        bought[formula[1]] = max(many - offers[formula[1]][0], 0)
    elif formula[0] == "many":
        _buy(formula[2], offers, many * formula[1], bought)
    elif formula[0] == "and":
        for part in formula[1]:
            _buy(part, offers, many, bought)
    else:
        numbers = _divided([_layers_of(part, offers) for part in formula[1]], many)
        for part, number in zip(formula[1], numbers):
            _buy(part, offers, number, bought)


def _divided(rows, many):
    """How many of so many pieces each row gives if the cheapest layers come first."""
    layers = []
    for at, row in enumerate(rows):
        # In a row the prices rise, so that numbers, which may be None, are never compared.
        layers.extend([(price, at, number) for price, number in row])
    numbers = [0] * len(rows)
    for _, at, number in sorted(layers):
        taken = many if number is None else min(many, number)
        numbers[at] = numbers[at] + taken
        many = many - taken
    return numbers
