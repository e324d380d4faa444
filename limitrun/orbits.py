"""Orbits: what is reached by making one step again and again."""


def find_orbit(step, start):
    """Return the stem and the cycle of start, step(start), step(step(start)) .., as two lists."""
    places = {}
    order = []
    thing = start
    while thing not in places:
        places[thing] = len(order)
        order.append(thing)
        thing = step(thing)
    return order[:places[thing]], order[places[thing]:]


def follow(step, start, count):
    """Return what is reached from start after count steps."""
    stem, cycle = find_orbit(step, start)
    if count < len(stem):
        return stem[count]
    return cycle[(count - len(stem)) % len(cycle)]
