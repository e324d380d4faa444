"""Points 16 to 18: what certificates show, and which ones are refused."""

import random
import unittest

from limitrun.certificates import certify_halting, certify_state, check_certificate, check_claims, check_halting
from limitrun.errors import BadClaim, BadPath
from limitrun.machine import all_states, is_halted, limit_state, successor
from limitrun.ordinals import add, is_ordinal, power
from limitrun.syntax import parse_program
from limitrun.tower import Tower
from reference import BLINK, CLIMB, CLIMB_AND_HALT, COUNTER, FIXED, Definition, random_programs, random_time

PROGRAMS = [parse_program(text) for text in FIXED] + random_programs(random.Random(16), 60)
PROGRAM = parse_program(COUNTER)
CLAIMS = (("step", (0, 0)), ("step", (1, 1)), ("limit", (0,), (1,)))
LARGEST = 10 ** 18 - 1


class Refusal(Exception):
    """What the definition refuses: the name of the error and its index."""


def judge_claim(program, claim, facts):
    """What a claim states by point 16, or None."""
    if claim[0] == "step":
        return claim[1], 0, successor(program, claim[1]), frozenset([claim[1]])
    indexes = [claim[1]] if claim[0] == "forever" else list(claim[1]) + list(claim[2])
    if any(index not in range(len(facts)) for index in indexes):
        return None
    if claim[0] == "forever":
        state, level, jump, visited = facts[claim[1]]
        return facts[claim[1]] if state == jump == limit_state(program, sorted(visited)) else None
    rows = [facts[index] for index in indexes]
    around = [facts[index] for index in claim[2]]
    if not around or len({row[1] for row in rows}) > 1:
        return None
    for before, after in zip(rows, rows[1:] + around[:1]):
        if before[2] != after[0]:
            return None
    jump = limit_state(program, sorted(set().union(*[row[3] for row in around])))
    return rows[0][0], rows[0][1] + 1, jump, frozenset().union(*[row[3] for row in rows])


def judge_claims(program, claims):
    facts = []
    for index, claim in enumerate(claims):
        fact = judge_claim(program, claim, facts)
        if fact is None:
            raise Refusal("BadClaim", index)
        facts.append(fact)
    return facts


def judge_entry(entry, facts, state, ceiling):
    """What an entry of a path shows by point 17: (level, count, state, visited), or None."""
    stem, cycle, count = entry
    if count < 1 or not all(index in range(len(facts)) for index in stem + cycle):
        return None
    if not cycle and count > len(stem):
        return None
    rows = [facts[index] for index in stem]
    around = [facts[index] for index in cycle]
    every = rows + around
    if len({row[1] for row in every}) != 1 or every[0][0] != state or not every[0][1] < ceiling:
        return None
    for before, after in zip(every, every[1:] + around[:1]):
        if before[2] != after[0]:
            return None
    # One jump after the other, at first along the stem, then around the cycle.
    made = min(count, len(rows) + len(around) + (count - len(rows)) % len(around)) if around else count
    visited = set()
    for turn in range(made):
        row = rows[turn] if turn < len(rows) else around[(turn - len(rows)) % len(around)]
        visited |= row[3]
        state = row[2]
    return every[0][1], count, state, visited


def judge_certificate(program, certificate):
    start, claims, path = certificate
    facts = judge_claims(program, claims)
    time, state, seen, ceiling = (), start, set(), 10 ** 9
    for index, entry in enumerate(path):
        shown = judge_entry(entry, facts, state, ceiling)
        if shown is None:
            raise Refusal("BadPath", index)
        ceiling, count, state, visited = shown
        time = add(time, power(ceiling, count))
        seen |= visited
    return time, state, tuple(sorted(seen))


def judge_halting(program, report):
    kind, (start, claims, path) = report
    time, state, seen = judge_certificate(program, report[1])
    if not any(is_halted(program, other) for other in seen):
        if kind == "halts" and is_halted(program, state):
            return time
        if kind == "never" and claims and claims[-1][0] == "forever":
            fact = judge_claims(program, claims)[-1]
            if fact[0] == state and not any(is_halted(program, other) for other in fact[3]):
                return None
    raise Refusal("BadPath", len(path))


def outcome(function, *arguments):
    """What a function returns, or the name and the index of its error."""
    try:
        return "returns", function(*arguments)
    except Refusal as error:
        return error.args
    except (BadClaim, BadPath) as error:
        return type(error).__name__, error.index


class Changer:
    """Changes of claims, certificates and reports."""

    def __init__(self, choose, program):
        self.choose = choose
        self.states = all_states(program)

    def index(self, claims):
        return self.choose.randint(0, len(claims) + (self.choose.random() < 0.1))

    def row(self, row, claims):
        row = list(row)
        kind = self.choose.randrange(5)
        if kind == 0 and row:
            row[self.choose.randrange(len(row))] = self.index(claims)
        elif kind == 1 and row:
            del row[self.choose.randrange(len(row))]
        elif kind == 2:
            row.insert(self.choose.randint(0, len(row)), self.index(claims))
        elif kind == 3 and len(row) > 1:
            row = row[1:] + row[:1]
        elif kind == 4:
            row = row * 2
        return tuple(row)

    def claim(self, claim, claims):
        kind = self.choose.randrange(6)
        if kind == 0:
            return ("step", self.choose.choice(self.states))
        if kind == 1:
            return ("forever", self.index(claims))
        if claim[0] == "limit":
            if kind == 2:
                return ("limit", self.row(claim[1], claims), claim[2])
            if kind == 3:
                return ("limit", claim[1], self.row(claim[2], claims))
            if kind == 4:
                return ("limit", claim[1] + claim[2], claim[2])
            return ("limit", claim[2], claim[1])
        return ("limit", (), (self.index(claims),)) if kind < 4 else claim

    def claims(self, claims):
        rows = list(claims)
        kind = self.choose.randrange(8)
        if kind < 4 and rows:
            place = self.choose.randrange(len(rows))
            rows[place] = self.claim(rows[place], claims)
        elif kind == 4:
            rows.append(("forever", self.index(claims)))
        elif kind == 5 and rows:
            rows.insert(self.choose.randint(0, len(rows)), self.choose.choice(rows))
        elif kind == 6 and rows:
            del rows[self.choose.randrange(len(rows))]
        elif kind == 7 and len(rows) > 1:
            place = self.choose.randrange(len(rows) - 1)
            rows[place], rows[place + 1] = rows[place + 1], rows[place]
        return tuple(rows)

    def entry(self, entry, claims):
        stem, cycle, count = entry
        kind = self.choose.randrange(6)
        if kind == 0:
            return self.row(stem, claims), cycle, count
        if kind == 1:
            return stem, self.row(cycle, claims), count
        if kind == 2:
            return stem + cycle, (), count
        if kind == 3:
            return stem + cycle, cycle, count
        if kind == 4:
            return stem, cycle, self.choose.choice([1, 2, 3, len(stem), len(stem) + 1, len(stem + cycle), len(stem + cycle) + 1, count + 1, LARGEST])
        return cycle, stem, count

    def path(self, path, claims):
        rows = list(path)
        kind = self.choose.randrange(7)
        if kind < 4 and rows:
            place = self.choose.randrange(len(rows))
            rows[place] = self.entry(rows[place], claims)
        elif kind == 4 and rows:
            rows.insert(self.choose.randint(0, len(rows)), self.choose.choice(rows))
        elif kind == 5 and rows:
            del rows[self.choose.randrange(len(rows))]
        elif kind == 6:
            stem = (self.index(claims),)
            rows.insert(self.choose.randint(0, len(rows)), (stem, (), 1))
        return tuple(rows)

    def certificate(self, certificate):
        start, claims, path = certificate
        kind = self.choose.randrange(8)
        if kind == 0:
            return self.choose.choice(self.states), claims, path
        if kind < 4:
            return start, self.claims(claims), path
        return start, claims, self.path(path, claims)


class ExampleTest(unittest.TestCase):
    def test_certify_state(self):
        certificate = certify_state(Tower(PROGRAM), (0, 0), (2, 0))
        self.assertEqual(check_certificate(PROGRAM, certificate)[:2], ((2, 0), (0, 2)))

    def test_check_claims(self):
        self.assertEqual(check_claims(PROGRAM, CLAIMS), [((0, 0), 0, (1, 1), ((0, 0),)), ((1, 1), 0, (1, 1), ((1, 1),)),
                                                         ((0, 0), 1, (0, 1), ((0, 0), (1, 1)))])
        with self.assertRaises(BadClaim) as caught:
            check_claims(PROGRAM, (("step", (0, 0)), ("limit", (), (0,))))
        self.assertEqual(caught.exception.index, 1)

    def test_check_certificate(self):
        self.assertEqual(check_certificate(PROGRAM, ((0, 0), CLAIMS, (((2,), (), 1),))), ((1, 0), (0, 1), ((0, 0), (1, 1))))

    def test_halting(self):
        self.assertEqual(check_halting(PROGRAM, certify_halting(Tower(PROGRAM), (0, 0))), (2, 1))
        program = parse_program(BLINK)
        self.assertIsNone(check_halting(program, certify_halting(Tower(program), (0,))))


class CertifyTest(unittest.TestCase):
    def check_form(self, program, certificate):
        states = all_states(program)
        start, claims, path = certificate
        self.assertIn(start, states)
        self.assertIs(type(certificate), tuple)
        self.assertIs(type(claims), tuple)
        self.assertIs(type(path), tuple)
        for claim in claims:
            self.assertIs(type(claim), tuple)
            self.assertIn(claim[0], ("step", "limit", "forever"))
            self.assertEqual(len(claim), 3 if claim[0] == "limit" else 2)
            for row in claim[1:] if claim[0] == "limit" else ():
                self.assertIs(type(row), tuple)
                self.assertTrue(all(type(index) is int for index in row))
        for stem, cycle, count in path:
            self.assertTrue(all(type(index) is int for index in stem + cycle + (count,)))

    def check_state(self, program, tower, definition, state, time):
        certificate = certify_state(tower, state, time)
        self.check_form(program, certificate)
        self.assertEqual(certificate[0], state)
        check_claims(program, certificate[1])
        shown = check_certificate(program, certificate)
        self.assertEqual(shown[:2], (time, tower.state_at(state, time)), (program, state, time))
        self.assertEqual(shown, judge_certificate(program, certificate))
        if definition is not None:
            self.assertEqual(shown[2], tuple(sorted(definition.states_before(state, time))))

    def test_states(self):
        choose = random.Random(17)
        for program in PROGRAMS:
            tower, definition = Tower(program), Definition(program)
            for state in all_states(program):
                for time in ((), (1,), (1, 0), (1, 0, 0), (2, 0, 1), random_time(choose, 5), random_time(choose, 6, 9)):
                    self.check_state(program, tower, definition, state, time)

    def test_large_times(self):
        choose = random.Random(18)
        for program in PROGRAMS[::4] + [parse_program(CLIMB), parse_program(CLIMB_AND_HALT)]:
            tower = Tower(program)
            state = choose.choice(all_states(program))
            for time in ((LARGEST,), (LARGEST, 0, LARGEST), (LARGEST,) * 64, (1,) + (0,) * 63, (3,) + (0,) * 30 + (2,) + (0,) * 32):
                self.check_state(program, tower, None, state, time)

    def test_halting_reports(self):
        for program in PROGRAMS + [parse_program(CLIMB), parse_program(CLIMB_AND_HALT)]:
            tower = Tower(program)
            for state in all_states(program):
                report = certify_halting(tower, state)
                time = tower.halting_time(state)
                self.assertIs(type(report), tuple)
                self.assertEqual(report[0], "never" if time is None else "halts")
                self.check_form(program, report[1])
                self.assertEqual(report[1][0], state)
                self.assertEqual(check_halting(program, report), time)
                self.assertEqual(judge_halting(program, report), time)
                if time is not None:
                    self.assertEqual(check_certificate(program, report[1])[:2], (time, tower.state_at(state, time)))


class ChangeTest(unittest.TestCase):
    def check_truth(self, tower, definition, start, shown):
        time, state, seen = shown
        self.assertTrue(is_ordinal(time) or max(time) >= LARGEST)
        self.assertEqual(tower.state_at(start, time), state)
        if sum(time) < 200:
            self.assertEqual(tuple(sorted(definition.states_before(start, time))), seen)

    def test_changed_claims_and_certificates(self):
        choose = random.Random(19)
        found = {"returns": 0, "BadClaim": 0, "BadPath": 0}
        for program in PROGRAMS:
            tower, definition = Tower(program), Definition(program)
            changer = Changer(choose, program)
            for turn in range(60):
                certificate = certify_state(tower, choose.choice(changer.states), random_time(choose, 4, 6))
                for change in range(choose.choice([1, 1, 1, 2, 3])):
                    certificate = changer.certificate(certificate)
                with self.subTest(program=program, certificate=certificate):
                    expected = outcome(judge_certificate, program, certificate)
                    self.assertEqual(outcome(check_certificate, program, certificate), expected)
                    found[expected[0]] += 1
                    claims = outcome(judge_claims, program, certificate[1])
                    if claims[0] == "returns":
                        claims = "returns", [fact[:3] + (tuple(sorted(fact[3])),) for fact in claims[1]]
                        for state, level, jump, seen in claims[1]:
                            self.assertEqual(definition.jump(state, level), jump)
                            self.assertEqual(sorted(definition.visited(state, level)), list(seen))
                    self.assertEqual(outcome(check_claims, program, certificate[1]), claims)
                    if expected[0] == "returns":
                        self.check_truth(tower, definition, certificate[0], expected[1])
        self.assertGreater(min(found.values()), 200)

    def test_changed_reports(self):
        choose = random.Random(20)
        found = {"returns": 0, "BadClaim": 0, "BadPath": 0}
        for program in PROGRAMS:
            tower = Tower(program)
            changer = Changer(choose, program)
            for turn in range(60):
                kind, certificate = certify_halting(tower, choose.choice(changer.states))
                for change in range(choose.choice([0, 1, 1, 1, 2, 3])):
                    certificate = changer.certificate(certificate)
                if choose.random() < 0.3:
                    kind = choose.choice(["halts", "never", "sometimes", ""])
                with self.subTest(program=program, kind=kind, certificate=certificate):
                    expected = outcome(judge_halting, program, (kind, certificate))
                    self.assertEqual(outcome(check_halting, program, (kind, certificate)), expected)
                    found[expected[0]] += 1
                    if expected[0] == "returns":
                        self.assertEqual(tower.halting_time(certificate[0]), expected[1])
        self.assertGreater(min(found.values()), 200)

    def test_arguments_stay_as_they_are(self):
        certificate = certify_state(Tower(PROGRAM), (0, 0), (2, 3))
        facts = check_claims(PROGRAM, certificate[1])
        self.assertIs(type(facts), list)
        facts.clear()
        self.assertEqual(len(check_claims(PROGRAM, certificate[1])), len(certificate[1]))


class ClaimTest(unittest.TestCase):
    ROUND = parse_program("var x 0..4 = 0 limit low\nx := if x = 4 then 2 else x + 1")
    STEPS = tuple(("step", (value,)) for value in range(5))

    def refused(self, program, claims, index):
        with self.assertRaises(BadClaim) as caught:
            check_claims(program, claims)
        self.assertEqual(caught.exception.index, index)

    def last(self, program, claims):
        return check_claims(program, claims)[-1]

    def test_no_claims(self):
        self.assertEqual(check_claims(PROGRAM, ()), [])

    def test_step(self):
        for state in all_states(PROGRAM):
            self.assertEqual(check_claims(PROGRAM, (("step", state),)), [(state, 0, successor(PROGRAM, state), (state,))])

    def test_other_kinds(self):
        for claim in (("stays", 0), ("", 0), ("limits", (), (0,))):
            self.refused(PROGRAM, (("step", (1, 1)), claim), 1)

    def test_limit(self):
        shown = (0,), 1, (2,), ((0,), (1,), (2,), (3,), (4,))
        for stem, cycle in (((0, 1), (2, 3, 4)), ((0, 1, 2), (3, 4, 2)), ((0, 1, 2, 3, 4), (2, 3, 4)), ((0, 1), (2, 3, 4, 2, 3, 4))):
            self.assertEqual(self.last(self.ROUND, self.STEPS + (("limit", stem, cycle),)), shown)
        self.assertEqual(self.last(self.ROUND, self.STEPS + (("limit", (), (3, 4, 2)),)), ((3,), 1, (2,), ((2,), (3,), (4,))))

    def test_an_empty_stem_and_an_empty_cycle(self):
        halted = parse_program("var x 0..2 = 0 limit low\nx := 1\nhalt x = 2")
        claims = (("step", (0,)), ("step", (1,)), ("step", (2,)))
        self.assertEqual(self.last(halted, claims + (("limit", (), (1,)),)), ((1,), 1, (1,), ((1,),)))
        self.refused(halted, claims + (("limit", (1,), ()),), 3)
        self.refused(halted, claims + (("limit", (), ()),), 3)
        self.refused(self.ROUND, self.STEPS + (("limit", (0, 1, 2, 3, 4), ()),), 5)

    def test_a_single_claim_in_a_cycle(self):
        self.assertEqual(self.last(PROGRAM, CLAIMS), ((0, 0), 1, (0, 1), ((0, 0), (1, 1))))
        self.refused(PROGRAM, (("step", (0, 0)), ("limit", (), (0,))), 1)
        self.refused(PROGRAM, (("step", (0, 0)), ("step", (1, 1)), ("limit", (), (0,))), 2)

    def test_chains(self):
        for stem, cycle in (((0,), (2, 3, 4)), ((1, 0), (2, 3, 4)), ((0, 1), (2, 3)), ((0, 1), (3, 4, 2)), ((0, 1), (2, 4)), ((), (0, 1, 2, 3, 4)),
                            ((0, 1), (4, 2, 3)), ((0, 1, 1), (2, 3, 4)), ((2, 3, 4), (0, 1))):
            self.refused(self.ROUND, self.STEPS + (("limit", stem, cycle),), 5)

    def test_claims_that_are_not_earlier(self):
        for stem, cycle in (((), (5,)), ((5,), (2, 3, 4)), ((0, 1), (2, 3, 4, 6)), ((9,), (2, 3, 4)), ((), (5, 2, 3, 4))):
            self.refused(self.ROUND, self.STEPS + (("limit", stem, cycle), ("step", (0,)), ("step", (0,))), 5)
        self.refused(PROGRAM, (("forever", 0),), 0)
        self.refused(PROGRAM, (("step", (1, 1)), ("forever", 2), ("forever", 0)), 1)
        self.refused(PROGRAM, (("limit", (), (1,)), ("step", (1, 1))), 0)

    def test_levels_that_differ(self):
        still = parse_program("var x 0..1 = 0 limit low\nx := x")
        claims = (("step", (0,)), ("limit", (), (0,)))
        self.assertEqual(self.last(still, claims + (("limit", (1,), (1,)),)), ((0,), 2, (0,), ((0,),)))
        for stem, cycle in (((0,), (1,)), ((1,), (0,)), ((), (0, 1)), ((), (1, 0)), ((0, 1), (0,))):
            self.refused(still, claims + (("limit", stem, cycle),), 2)

    def test_the_first_claim_that_does_not_hold(self):
        self.refused(PROGRAM, (("step", (0, 0)), ("limit", (), (0,)), ("forever", 0), ("limit", (), ())), 1)
        self.refused(PROGRAM, (("step", (0, 0)), ("forever", 0), ("limit", (), (0,))), 1)

    def test_forever_about_a_step(self):
        for rule, state, holds in (("low", (0,), True), ("low", (1,), True), ("set 0", (0,), True), ("set 0", (1,), False), ("keep 1", (0,), True),
                                   ("set 0", (3,), True)):
            program = parse_program(f"var x 0..3 = 0 limit {rule}\nhalt x = 3")
            if holds:
                self.assertEqual(self.last(program, (("step", state), ("forever", 0))), (state, 0, state, (state,)))
            else:
                self.refused(program, (("step", state), ("forever", 0)), 1)
        self.refused(PROGRAM, (("step", (0, 0)), ("forever", 0)), 1)

    def test_forever_about_a_limit(self):
        program = parse_program(BLINK)
        claims = (("step", (0,)), ("step", (1,)), ("limit", (), (0, 1)), ("limit", (), (1, 0)))
        self.assertEqual(self.last(program, claims + (("forever", 2),)), ((0,), 1, (0,), ((0,), (1,))))
        self.refused(program, claims + (("forever", 3),), 4)
        self.refused(program, claims + (("forever", 0),), 4)
        # The jump is the state, but the limit of what is visited is not.
        other = parse_program("var x 0..2 = 0 limit keep 0\nx := if x = 0 then 1 else 2")
        claims = (("step", (0,)), ("step", (1,)), ("step", (2,)), ("limit", (0, 1), (2,)), ("forever", 2))
        self.assertEqual(self.last(other, claims), ((2,), 0, (2,), ((2,),)))
        passing = parse_program("var x 0..1 = 0 limit low\nvar y 0..1 = 0 limit high\nx := 1 - x\ny := 1 - y")
        claims = (("step", (0, 1)), ("step", (1, 0)), ("limit", (), (0, 1)), ("forever", 2))
        self.assertEqual(self.last(passing, claims), ((0, 1), 1, (0, 1), ((0, 1), (1, 0))))
        climb = parse_program(CLIMB)
        claims = (("step", (1, 0)), ("step", (2, 1)), ("step", (0, 0)), ("step", (1, 1)), ("limit", (0, 1), (2, 3)))
        self.assertEqual(self.last(climb, claims), ((1, 0), 1, (1, 0), ((0, 0), (1, 0), (1, 1), (2, 1))))
        self.refused(climb, claims + (("forever", 4),), 5)

    def test_forever_in_other_claims(self):
        program = parse_program(BLINK)
        claims = (("step", (0,)), ("step", (1,)), ("limit", (), (0, 1)), ("forever", 2), ("limit", (3,), (3, 2)), ("forever", 3), ("forever", 4))
        shown = (0,), 1, (0,), ((0,), (1,))
        self.assertEqual(check_claims(program, claims)[2:], [shown, shown, ((0,), 2, (0,), ((0,), (1,))), shown, ((0,), 2, (0,), ((0,), (1,)))])
        self.refused(program, claims + (("limit", (3,), (4,)),), 7)
        self.refused(program, claims + (("limit", (0,), (3,)),), 7)


class PathTest(unittest.TestCase):
    ROUND = ClaimTest.ROUND
    CLAIMS = ClaimTest.STEPS + (("limit", (0, 1), (2, 3, 4)), ("limit", (), (2, 3, 4)))

    def shown(self, *path, start=(0,)):
        return check_certificate(self.ROUND, (start, self.CLAIMS, path))

    def refused(self, index, *path, start=(0,), claims=CLAIMS):
        with self.assertRaises(BadPath) as caught:
            check_certificate(self.ROUND, (start, claims, path))
        self.assertEqual(caught.exception.index, index)

    def test_an_empty_path(self):
        self.assertEqual(self.shown(), ((), (0,), ()))
        self.assertEqual(check_certificate(self.ROUND, ((3,), (), ())), ((), (3,), ()))

    def test_visited_states_stop_at_count(self):
        stem, cycle = (0, 1), (2, 3, 4)
        for count in range(1, 12):
            values = [value if value < 5 else 2 + (value - 2) % 3 for value in range(count + 1)]
            seen = tuple((value,) for value in sorted(set(values[:-1])))
            self.assertEqual(self.shown((stem, cycle, count)), ((count,), (values[-1],), seen))
        self.assertEqual(self.shown((stem, cycle, LARGEST)), ((LARGEST,), (2 + (LARGEST - 2) % 3,), ((0,), (1,), (2,), (3,), (4,))))
        self.assertEqual(self.shown(((), (3, 4, 2), 2), start=(3,)), ((2,), (2,), ((3,), (4,))))

    def test_an_empty_cycle(self):
        for count in (1, 2, 3):
            self.assertEqual(self.shown(((0, 1, 2), (), count)), ((count,), (count,), tuple((value,) for value in range(count))))
        self.refused(0, ((0, 1, 2), (), 4))
        self.refused(0, ((0, 1, 2), (), LARGEST))
        self.refused(0, ((), (), 1))

    def test_an_empty_stem(self):
        for count in (1, 2, 3, 4):
            self.assertEqual(self.shown(((), (2, 3, 4), count), start=(2,))[:2], ((count,), (2 + count % 3,)))

    def test_chains_are_checked_also_where_they_are_not_used(self):
        self.refused(0, ((0, 2), (), 1))
        self.refused(0, ((0, 1), (2, 3), 1))
        self.refused(0, ((0, 1), (3, 4, 2), 2))
        self.refused(0, ((0, 1), (2, 3, 5), 1))
        self.refused(0, ((0, 1, 7), (), 1))
        self.assertEqual(self.shown(((0, 1), (2, 3, 4), 1)), ((1,), (1,), ((0,),)))

    def test_counts(self):
        self.refused(0, ((0, 1), (2, 3, 4), 0))
        self.refused(0, ((0, 1), (), 0))
        self.refused(0, ((0, 1), (2, 3, 4), -1))

    def test_the_state_that_is_reached(self):
        self.refused(0, ((1,), (), 1))
        self.refused(0, ((0, 1), (2, 3, 4), 1), start=(1,))
        self.assertEqual(self.shown(((5,), (), 1), ((2,), (), 1)), ((1, 1), (3,), ((0,), (1,), (2,), (3,), (4,))))
        self.refused(1, ((5,), (), 1), ((3,), (), 1))
        self.refused(1, ((5,), (), 1), ((), (3, 4, 2), 1))

    def test_levels(self):
        self.refused(1, ((0,), (), 1), ((1,), (), 1))
        self.refused(1, ((5,), (), 1), ((6,), (), 1))
        self.refused(1, ((0, 1), (), 2), ((6,), (), 1))
        self.refused(2, ((5,), (6,), 3), ((2,), (), 1), ((3,), (), 1))
        self.assertEqual(self.shown(((5,), (6,), 3), ((2, 3), (), 2))[:2], ((3, 2), (4,)))

    def test_claims_come_first(self):
        with self.assertRaises(BadClaim) as caught:
            check_certificate(self.ROUND, ((0,), self.CLAIMS + (("forever", 0),), (((9,), (), 1),)))
        self.assertEqual(caught.exception.index, 7)
        self.refused(0, ((9,), (), 1), ((9,), (), 1))

    def test_forever_in_paths(self):
        claims = self.CLAIMS + (("forever", 6), ("limit", (5,), (7,)))
        shown = check_certificate(self.ROUND, ((0,), claims, (((8,), (), 1), ((7,), (6,), 4), ((2,), (), 1))))
        self.assertEqual(shown, ((1, 4, 1), (3,), ((0,), (1,), (2,), (3,), (4,))))
        shown = check_certificate(self.ROUND, ((0,), claims, (((5,), (7,), 10),)))
        self.assertEqual(shown, ((10, 0), (2,), ((0,), (1,), (2,), (3,), (4,))))
        # It stands at the level of the claim to which it refers, and at no other one.
        self.refused(1, ((5,), (), 1), ((7,), (), 1), claims=claims)


class ReportTest(unittest.TestCase):
    def refused(self, program, report, index):
        with self.assertRaises(BadPath) as caught:
            check_halting(program, report)
        self.assertEqual(caught.exception.index, index)

    def test_a_halted_start(self):
        program = parse_program("var x 0..2 = 0 limit low\nx := x + 1\nhalt x = 1")
        self.assertEqual(check_halting(program, ("halts", ((1,), (), ()))), ())
        self.refused(program, ("halts", ((0,), (), ())), 0)
        self.refused(program, ("never", ((1,), (), ())), 0)
        self.refused(program, ("halts", ((1,), (("step", (1,)),), (((0,), (), 1),))), 1)
        self.assertEqual(check_halting(program, ("halts", ((0,), (("step", (0,)),), (((0,), (), 1),)))), (1,))

    def test_a_later_time_is_refused(self):
        program = parse_program("var x 0..2 = 0 limit low\nx := x + 1\nhalt x = 1")
        claims = (("step", (0,)), ("step", (1,)), ("limit", (0,), (1,)))
        self.refused(program, ("halts", ((0,), claims, (((0, 1), (), 2),))), 1)
        self.refused(program, ("halts", ((0,), claims, (((2,), (), 1),))), 1)
        self.assertEqual(check_halting(program, ("halts", ((0,), claims, (((0, 1), (), 1),)))), (1,))
        self.assertEqual(check_halting(program, ("halts", ((0,), claims, (((0,), (1,), 1),)))), (1,))

    def test_an_unused_claim_may_visit_a_halted_state(self):
        report = ("halts", ((0, 0), CLAIMS + (("step", (0, 3)),), ()))
        self.refused(PROGRAM, report, 0)
        claims = (("step", (1, 3)), ("step", (0, 2)))
        self.assertEqual(check_halting(PROGRAM, ("halts", ((0, 2), claims, (((1,), (0,), 1),)))), (1,))

    def test_never(self):
        program = parse_program("var x 0..3 = 0 limit low\nx := 1 - x\nhalt x >= 2")
        claims = (("step", (0,)), ("step", (1,)), ("limit", (), (0, 1)), ("forever", 2))
        self.assertIsNone(check_halting(program, ("never", ((0,), claims, ()))))
        self.assertIsNone(check_halting(program, ("never", ((1,), claims, (((1,), (), 1),)))))
        self.assertIsNone(check_halting(program, ("never", ((0,), claims, (((3,), (), 1), ((0, 1), (), 2))))))
        self.refused(program, ("never", ((1,), claims, ())), 0)
        self.refused(program, ("never", ((0,), claims, (((0,), (), 1),))), 1)
        self.refused(program, ("never", ((0,), claims + (("step", (0,)),), ())), 0)
        self.refused(program, ("never", ((0,), claims[:3], ())), 0)
        self.refused(program, ("never", ((0,), (), ())), 0)
        self.refused(program, ("halts", ((0,), claims, (((0,), (), 1),))), 1)

    def test_never_with_halted_states(self):
        program = parse_program("var x 0..3 = 0 limit set 1\nx := 2\nhalt x = 2")
        claims = (("step", (0,)), ("step", (2,)), ("forever", 1))
        self.refused(program, ("never", ((0,), claims, (((0,), (), 1),))), 1)
        self.refused(program, ("never", ((2,), claims, ())), 0)
        self.refused(program, ("never", ((0,), claims, (((0, 1), (), 2),))), 1)
        self.assertEqual(check_halting(program, ("halts", ((0,), claims, (((0,), (), 1),)))), (1,))

    def test_errors_of_the_certificate_come_first(self):
        for kind in ("halts", "never"):
            with self.assertRaises(BadClaim) as caught:
                check_halting(PROGRAM, (kind, ((0, 0), CLAIMS + (("forever", 0),), (((9,), (), 1),))))
            self.assertEqual(caught.exception.index, 3)
            self.refused(PROGRAM, (kind, ((0, 0), CLAIMS, (((2,), (), 1), ((0,), (), 1)))), 1)

    def test_other_kinds(self):
        kind, certificate = certify_halting(Tower(PROGRAM), (0, 0))
        for other in ("never", "halt", "", "HALTS"):
            self.refused(PROGRAM, (other, certificate), len(certificate[2]))
        program = parse_program(BLINK)
        kind, certificate = certify_halting(Tower(program), (1,))
        self.assertIsNone(check_halting(program, ("never", certificate)))
        self.refused(program, ("halts", certificate), len(certificate[2]))


if __name__ == "__main__":
    unittest.main()
