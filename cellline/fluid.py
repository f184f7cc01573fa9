"""Fluid: mixes are tuples (volume, p, q, r, heat), containers are tuples (volume, p, q, r in each microlitre).

Neither is ever changed in place, so that a copy of the plant may share them.
"""

NOTHING = (0, 0, 0, 0, 0)
EMPTY_CONTAINER = (0, 0, 0, 0)
CONCENTRATE_TEMPERATURE = 2000


def together(one, other):
    """Two mixes put together."""
    return tuple([x + y for x, y in zip(one, other)])


def less(mix, part):
    """What is left of a mix when a part of it is gone."""
    return tuple([x - y for x, y in zip(mix, part)])


def conductivity(mix):
    """Rounded down; 0 where there is no volume."""
    if mix[0] == 0:
        return 0
    return (19 * mix[1] + 18 * mix[2] + 10 * mix[3]) // mix[0]


def temperature(mix):
    """Rounded down; 0 where there is no volume."""
    if mix[0] == 0:
        return 0
    return mix[4] // mix[0]


def seven_numbers(mix):
    """A mix as it is answered: its five numbers, its conductivity, its temperature."""
    return list(mix) + [conductivity(mix), temperature(mix)]


def water(volume, degrees):
    """Water of a temperature, without substances."""
    return (volume, 0, 0, 0, volume * degrees)


def warmth(heat):
    """Heat alone, to be put together with a mix."""
    return (0, 0, 0, 0, heat)


def portion(mix, volume):
    """A portion of a mix that has at least this volume, and a volume above 0."""
    whole = mix[0]
    # The volume itself needs no rule of its own: whole * volume // whole is just volume.
    return tuple([x * volume // whole for x in mix])


def drawn(container, volume):
    """The mix that so much concentrate makes."""
    return (
        volume,
        volume * container[1],
        volume * container[2],
        volume * container[3],
        volume * CONCENTRATE_TEMPERATURE,
    )


def left_in(container, volume):
    """The container after so much was drawn from it."""
    return (container[0] - volume, container[1], container[2], container[3])
