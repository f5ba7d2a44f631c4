"""Plain, slow answers about legs and plans, which are written out step by step."""

from random import Random

from tests.brute import random_web, rings_at, simple_walks


def written_out(legs):
    """All steps of legs, one behind another."""
    return [step for walk, times in legs for _ in range(times) for step in walk]


def first_steps(plan, many):
    """The first so many steps of a plan."""
    legs, last = plan
    steps = written_out(legs)
    while len(steps) < many:
        steps = steps + list(last)
    return steps[:many]


def sums_along(numbers):
    """The sums of the first 0, 1, 2, .. of numbers."""
    found = [0]
    for number in numbers:
        found.append(found[-1] + number)
    return found


def sum_plainly(steps):
    return ((sum(step[2][0] for step in steps), sum(step[2][1] for step in steps)), sum(step[3] for step in steps),
            sum(step[4] for step in steps))


def need_plainly(steps):
    """The pair (need, gain) of steps."""
    sums = sums_along([step[4] for step in steps])
    return -min(sums), sums[-1]


def below_plainly(steps, stock):
    return next((many for many, has in enumerate(sums_along([step[4] for step in steps])) if stock + has < 0), None)


def random_closed(random, web, place, most=4):
    """A walk that ends where it begins, perhaps empty, of rings one behind another."""
    rings = rings_at(web, place)
    if not rings:
        return []
    return [step for _ in range(random.randint(0, most)) for step in random.choice(rings)]


def random_legs(random, web, place, times=4, most=5):
    """Legs from a place, and where they end."""
    legs = []
    for _ in range(random.randint(0, most)):
        if random.random() < 0.5:
            walk = random.choice(simple_walks(web, place))
            legs.append((walk, 1))
            place = walk[-1][1] if walk else place
        else:
            legs.append((random_closed(random, web, place), random.randint(0, times)))
    return legs, place


def random_cases(seed, many, **more):
    """Triples of a web, a place and legs from there, each with where they end."""
    random = Random(seed)
    found = []
    while len(found) < many:
        web = random_web(random, random.randint(1, 4), random.randint(1, 8))
        place = random.randrange(web.places())
        legs, end = random_legs(random, web, place, **more)
        found.append((web, place, legs, end))
    return found


def random_plans(seed, many, **more):
    """Triples of a web, a place and a plan from there."""
    random = Random(seed)
    found = []
    while len(found) < many:
        web, place, legs, end = random_cases(random.random(), 1, **more)[0]
        last = random_closed(random, web, end)
        if last:
            found.append((web, place, (legs, last)))
    return found
