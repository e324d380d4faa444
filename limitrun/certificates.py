"""Certificates: proofs of where a run is at a time, and of when it halts."""

from limitrun.errors import BadClaim, BadPath
from limitrun.machine import is_halted, limit_state, successor
from limitrun.ordinals import add, degree, power


def certify_state(tower, state, time):
    """Return a certificate that shows the state at a time in the run from a state."""
    plan = plan_path(tower, state, time)
    claims = []
    # For each level, the indexes of its claims by their states.
    indexes = []
    for level, subjects in enumerate(plan_claims(tower, plan)):
        indexes.append({})
        for subject in subjects:
            indexes[level][subject] = len(claims)
            if level == 0:
                claims.append(("step", subject))
            else:
                stem, cycle = tower.jump_orbit(subject, level - 1)
                below = indexes[level - 1]
                claims.append(("limit", indexes_of(stem, below), indexes_of(cycle, below)))
    path = []
    for level, stem, cycle, count in plan:
        path.append((indexes_of(stem, indexes[level]), indexes_of(cycle, indexes[level]), count))
    return state, tuple(claims), tuple(path)


def plan_path(tower, state, time):
    """Return the list of (level, stem, cycle, count) that leads from a state to a time."""
    plan = []
    for place, count in enumerate(time):
        level = degree(time) - place
        if count > 0:
            stem, cycle = tower.jump_orbit(state, level)
            plan.append((level, stem, cycle, count))
            state = tower.state_after(state, level, count)
    return plan


def plan_claims(tower, plan):
    """Return, for each level, the dict whose keys are the states that need a claim."""
    top = plan[0][0] if plan else -1
    wanted = [{} for level in range(top + 1)]
    for level, stem, cycle, count in plan:
        for state in stem + cycle:
            wanted[level][state] = True
    for level in range(top, 0, -1):
        for subject in list(wanted[level]):
            stem, cycle = tower.jump_orbit(subject, level - 1)
            for state in stem + cycle:
                wanted[level - 1][state] = True
    return wanted


def indexes_of(states, indexes):
    """Return the tuple of the indexes of the claims about these states."""
    return tuple([indexes[state] for state in states])


def certify_halting(tower, state):
    """Return a halting report about the run from a state."""
    time = tower.halting_time(state)
    if time is not None:
        return "halts", certify_state(tower, state, time)
    start, claims, path = certify_state(tower, state, power(tower.height()))
    # All levels from the height on are the same, so a state to which one of
    # its jumps leads jumps to itself: it is alone in the cycle of the path.
    stem, cycle, count = path[0]
    return "never", (start, claims + (("forever", cycle[0]),), path)


def check_claims(program, claims):
    """Return the list of what each claim states: (state, level, jump, visited)."""
    facts = []
    for index, claim in enumerate(claims):
        fact = fact_of_claim(program, claim, facts)
        if fact is None:
            raise BadClaim(index)
        facts.append(fact)
    return facts


def fact_of_claim(program, claim, facts):
    """Return what a claim states, given what the earlier ones state, or None if it does not hold."""
    if claim[0] == "step":
        return claim[1], 0, successor(program, claim[1]), (claim[1],)
    if claim[0] == "limit":
        return fact_of_limit(program, claim[1], claim[2], facts)
    if claim[0] == "forever" and 0 <= claim[1] < len(facts):
        state, level, jump, visited = facts[claim[1]]
        if jump == state and limit_state(program, list(visited)) == state:
            return facts[claim[1]]
    return None


def fact_of_limit(program, stem, cycle, facts):
    """Return what a claim of the kind "limit" states, or None if it does not hold."""
    if len(cycle) == 0 or not is_chained(stem, cycle, facts):
        return None
    first = facts[(stem + cycle)[0]]
    jump = limit_state(program, list(visited_by(cycle, facts)))
    return first[0], first[1] + 1, jump, visited_by(stem + cycle, facts)


def is_chained(stem, cycle, facts):
    """Return whether there are these claims, of one level, and each one jumps to the next one's state."""
    indexes = stem + cycle
    for index in indexes:
        if not 0 <= index < len(facts) or facts[index][1] != facts[indexes[0]][1]:
            return False
    # Behind the last claim of the cycle comes its first one.
    for index, following in zip(indexes, indexes[1:] + cycle[:1]):
        if facts[index][2] != facts[following][0]:
            return False
    return True


def visited_by(indexes, facts):
    """Return the tuple of all states that these claims visit, in ascending order."""
    return tuple(sorted({state for index in indexes for state in facts[index][3]}))


def check_certificate(program, certificate):
    """Return the time, the state and the visited states that a certificate shows."""
    start, claims, path = certificate
    return check_path(start, check_claims(program, claims), path)


def check_path(start, facts, path):
    """Return the time, the state and the visited states that a path shows."""
    time = ()
    state = start
    used = ()
    # No claim has a level as high as the number of claims.
    lowest = len(facts)
    for index, (stem, cycle, count) in enumerate(path):
        if not is_entry(stem, cycle, count, facts):
            raise BadPath(index)
        first = facts[(stem + cycle)[0]]
        if first[0] != state or first[1] >= lowest:
            raise BadPath(index)
        lowest = first[1]
        time = add(time, power(lowest, count))
        state = facts[last_used(stem, cycle, count)][2]
        used = used + stem[:count] + cycle[:max(0, count - len(stem))]
    return time, state, visited_by(used, facts)


def is_entry(stem, cycle, count, facts):
    """Return whether an entry of a path is in order by itself."""
    if count < 1 or (len(cycle) == 0 and count > len(stem)):
        return False
    return is_chained(stem, cycle, facts)


def last_used(stem, cycle, count):
    """Return the index of the claim that makes the last one of count jumps."""
    if count <= len(stem):
        return stem[count - 1]
    return cycle[(count - len(stem) - 1) % len(cycle)]


def check_halting(program, report):
    """Return the halting time that a halting report shows, or None if the run never halts."""
    kind, (start, claims, path) = report
    facts = check_claims(program, claims)
    time, state, visited = check_path(start, facts, path)
    if is_any_halted(program, visited):
        raise BadPath(len(path))
    if kind == "halts" and is_halted(program, state):
        return time
    if kind == "never" and is_forever(program, claims, facts, state):
        return None
    raise BadPath(len(path))


def is_any_halted(program, states):
    """Return whether one of these states is halted."""
    return any([is_halted(program, state) for state in states])


def is_forever(program, claims, facts, state):
    """Return whether the last claim shows that the run from a state never halts."""
    if len(claims) == 0 or claims[-1][0] != "forever":
        return False
    return facts[-1][0] == state and not is_any_halted(program, facts[-1][3])
