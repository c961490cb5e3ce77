"""How many travellers get through a net."""

from asmany.basics import check_amounts


def check_widths(net, value):
    """Raise InvalidPool unless the value has a width for each road."""
    check_amounts(value, len(net.roads))


def most_through(net, widths):
    """The greatest length of a run of paths."""
    check_widths(net, widths)
    return _amount_out(net, _greatest_flow(net, widths))


def through_plan(net, widths):
    """Some paths with numbers that sum to the greatest length."""
    check_widths(net, widths)
    flow = _greatest_flow(net, widths)
    plan = []
    # Each path uses up one of its roads, so that no path comes twice.
    while True:
        room = [(max(amount, 0), max(-amount, 0)) for amount in flow]
        tree = _reached(net, room)
        if net.goal not in tree:
            break
        steps = _steps_to(net.goal, tree)
        number = _narrowest(steps, room)
        path = tuple(sorted([net.roads[step[0]][0] for step in steps]))
        plan.append((path, number))
        flow = _more(flow, steps, -number)
    return tuple(sorted(plan))


def least_cut(net, widths):
    """Some lot of roads on each path, with the least sum of widths."""
    check_widths(net, widths)
    tree = _reached(net, _residue(widths, _greatest_flow(net, widths)))
    return tuple([name for name, one, other in net.roads if (one in tree) != (other in tree)])


def _greatest_flow(net, widths):
    """For each road how much goes from its first end to its second one."""
    flow = [0] * len(widths)
    while True:
        room = _residue(widths, flow)
        # The tree has shortest paths: so the steps are few, however wide the roads.
        tree = _reached(net, room)
        if net.goal not in tree:
            return flow
        steps = _steps_to(net.goal, tree)
        flow = _more(flow, steps, _narrowest(steps, room))


def _residue(widths, flow):
    """For each road how much more may go forth, and back."""
    return [(width - amount, width + amount) for width, amount in zip(widths, flow)]


def _reached(net, room):
    """For each place that is reached: the road, the direction, the place before."""
    tree = {net.start: None}
    rows = [net.start]
    while rows:
        further = []
        for place in rows:
            for at, far, back in _roads_from(net, place):
                if far not in tree and room[at][back] > 0:
                    tree[far] = (at, back, place)
                    further.append(far)
        rows = further
    return tree


def _roads_from(net, place):
    """The roads at a place: index, far end, 1 if they are gone back, else 0."""
    roads = []
    for at, (_, one, other) in enumerate(net.roads):
        if one == place:
            roads.append((at, other, 0))
        if other == place:
            roads.append((at, one, 1))
    return roads


def _steps_to(place, tree):
    """The roads and directions by which the tree reaches a place."""
    steps = []
    step = tree[place]
    while step is not None:
        steps.append((step[0], step[1]))
        step = tree[step[2]]
    return steps


def _narrowest(steps, room):
    """The least room on the steps."""
    return min([room[at][back] for at, back in steps])


def _more(flow, steps, number):
    """The flow with so much more on each of the steps."""
    flow = list(flow)
    for at, back in steps:
        flow[at] = flow[at] + (-number if back else number)
    return flow


def _amount_out(net, flow):
    """How much leaves the start."""
    amount = 0
    for at, _, back in _roads_from(net, net.start):
        amount = amount + (-flow[at] if back else flow[at])
    return amount
