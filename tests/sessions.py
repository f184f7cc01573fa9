"""Long lists of calls, made from a seed, so that every run tests the same ones."""

import random

from tests.support import (
    CHAMBER, CHECK, HUGE, LOOK, TIME, TOTALS, apart, cell, control, fault, flow, hang, heat, hold, lay, recipe, supply,
    tick, window, would,
)


def any_lay(rng):
    n = rng.choice([2, 3, 5, 12, 32, rng.randint(2, 32)])
    c = rng.choice([0, n - 1, rng.randint(0, n - 1)])
    return lay(n, c, min(1000, n - c + rng.choice([0, 0, 1, 5, 968])), rng.choice([1000, 1001, 4000, 1000000]))


def any_recipe(rng):
    pd = rng.choice([1, 7, 35, 100, rng.randint(1, 1000000)])
    qd = rng.choice([1, 9, 20, 100, rng.randint(1, 1000000)])
    pn = rng.choice([0, pd, rng.randint(0, pd), rng.randint(0, pd), pd * 10 // 13, pd // 2])
    qn = rng.choice([0, qd, rng.randint(0, qd), rng.randint(0, qd), qd // 3, qd * 35 // 100])
    return recipe(pn, pd, qn, qd)


def any_hang(rng):
    v = rng.choice([0, 1, 300, 20000, 10000000])
    top = rng.choice([1, 30, 300, 10000])
    return hang(rng.randint(0, 1), v, rng.randint(0, top), rng.randint(0, top), rng.randint(0, top))


def any_window(rng):
    lo = rng.choice([0, 0, rng.randint(0, 3000), rng.randint(0, 1000000)])
    tlo = rng.choice([0, 0, 1900, rng.randint(0, 10000)])
    return window(lo, rng.choice([lo, 1000000, rng.randint(lo, 1000000)]), tlo, rng.choice([tlo, 10000, 10000]))


def any_control(rng):
    target = rng.choice([0, 50, 1000, rng.randint(0, 20000), 1000000])
    return control(target, rng.choice([0, 1, 100, 1000]), rng.choice([0, 1, 50, 1000]),
                   rng.choice([0, 10, 1000, 1000000000]))


def any_heat(rng):
    return heat(rng.choice([0, 1800, 2000, 2500, 10000]), rng.choice([0, 5, 100, 1000]),
                rng.choice([0, 1000, 300000, 10000000]), rng.choice([0, 1000, 2000, 3000]))


def any_fault(rng):
    v = rng.choice([0, 1, -1, 3, -10, 2000, rng.randint(-3000, 3000), -1000000, 1000000])
    return fault(rng.randint(0, 3), rng.choice([0, 0, 0, 1, 2, 2]), v)


def any_query(rng):
    return rng.choice([LOOK, LOOK, CHAMBER, TOTALS, TIME, CHECK, supply(0), supply(1), cell(rng.randint(0, 31)), cell(0)])


def any_ticks(rng):
    m = rng.choice([1, 1, 2, 3, 10, 40])
    return rng.choice([tick, tick, tick, would])(m)


def spoilt(rng, call):
    """The call with something wrong with it, or perhaps only something else."""
    call = list(call)
    way = rng.randint(0, 3)
    if way == 0:
        return (call + [rng.randint(0, 3)] * rng.randint(1, 15))[:20]
    if way == 1:
        return call[:max(1, len(call) - 1)]
    if way == 2:
        call[0] = rng.choice([-1, 19, -19, rng.randint(0, 18), HUGE, -HUGE])
        return call
    at = rng.randrange(len(call))
    call[at] = rng.choice([-1, -HUGE, HUGE, call[at] + 1, call[at] - 1])
    return call


MAKERS = (
    (any_lay, 1), (any_recipe, 3), (any_hang, 4), (lambda rng: flow(rng.choice([0, 1, 9, 333, 1000, 5000])), 2),
    (any_window, 2), (any_control, 2), (any_heat, 2),
    (lambda rng: apart(rng.choice([0, 1, 10, 1000000]), rng.choice([0, 1, 10, 10000])), 1),
    (any_fault, 4), (lambda rng: hold(rng.choice([0, 0, 1])), 2), (any_query, 12), (any_ticks, 14),
)


def session(seed, size):
    """A list of calls; most seeds first tell what makes fluid flow well, so that the valve is at work too."""
    rng = random.Random(seed)
    calls = []
    if seed % 4:
        calls += [any_lay(rng), window(0, 1000000, 0, 10000), flow(rng.choice([7, 500, 3000])), apart(20, 20)]
        calls += [hang(0, 10000000, 50, 20, 30), hang(1, 10000000, 10, 80, 20), recipe(1, 35, 1, 20), any_control(rng)]
    makers = [maker for maker, weight in MAKERS for i in range(weight)]
    while len(calls) < size:
        call = rng.choice(makers)(rng)
        if rng.random() < 0.04:
            call = spoilt(rng, call)
        calls.append(call)
    return calls
