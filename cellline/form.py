"""The form of a call: how many arguments each place has, and the ranges these lie in."""

BAD_FORM = -100
OUT_OF_RANGE = -1
FINE = 0


def all_within(args, low, high):
    """Whether every one of these lies from low to high."""
    for x in args:
        if x < low or x > high:
            return False
    return True


def nothing_fits(args):
    """A call without arguments has none that could be out of its range."""
    return True


def lay_fits(args):
    """n, c, k, v."""
    n = args[0]
    c = args[1]
    return 2 <= n <= 32 and 0 <= c <= n - 1 and n - c <= args[2] <= 1000 and 1000 <= args[3] <= 1000000


def share_fits(part, whole):
    """One half of a recipe: a part of a whole."""
    return 1 <= whole <= 1000000 and 0 <= part <= whole


def recipe_fits(args):
    """pn, pd, qn, qd."""
    return share_fits(args[0], args[1]) and share_fits(args[2], args[3])


def hang_fits(args):
    """which, v, p, q, r."""
    return which_fits(args[:1]) and 0 <= args[1] <= 10000000 and all_within(args[2:], 0, 10000)


def flow_fits(args):
    """f."""
    return 0 <= args[0] <= 5000


def window_fits(args):
    """lo, hi, tlo, thi."""
    return 0 <= args[0] <= args[1] <= 1000000 and 0 <= args[2] <= args[3] <= 10000


def control_fits(args):
    """target, kp, ki, im."""
    return 0 <= args[0] <= 1000000 and all_within(args[1:3], 0, 1000) and 0 <= args[3] <= 1000000000


def heat_fits(args):
    """set, band, power, inlet."""
    return 0 <= args[0] <= 10000 and 0 <= args[1] <= 1000 and 0 <= args[2] <= 10000000 and 0 <= args[3] <= 3000


def apart_fits(args):
    """d, td."""
    return 0 <= args[0] <= 1000000 and 0 <= args[1] <= 10000


def ticks_fit(args):
    """m."""
    return 1 <= args[0] <= 200


def fault_fits(args):
    """channel, mode, v."""
    return 0 <= args[0] <= 3 and 0 <= args[1] <= 2 and -1000000 <= args[2] <= 1000000


def which_fits(args):
    """One number that is 0 or 1: which container, or whether to hold."""
    return 0 <= args[0] <= 1


def cell_fits(args):
    """i."""
    return 0 <= args[0] <= 31


# By place: how many arguments, and whether so many of them lie in their ranges.
FORMS = (
    (4, lay_fits),
    (4, recipe_fits),
    (5, hang_fits),
    (1, flow_fits),
    (4, window_fits),
    (4, control_fits),
    (4, heat_fits),
    (2, apart_fits),
    (1, ticks_fit),
    (3, fault_fits),
    (1, which_fits),
    (0, nothing_fits),
    (0, nothing_fits),
    (1, cell_fits),
    (0, nothing_fits),
    (1, which_fits),
    (0, nothing_fits),
    (1, ticks_fit),
    (0, nothing_fits),
)


def is_told(call):
    """Whether the place is told, and has as many arguments as are here."""
    # A place below 0 would be counted from the end of FORMS, so it is asked for too.
    if call == [] or call[0] < 0 or call[0] >= len(FORMS):
        return False
    return len(call) - 1 == FORMS[call[0]][0]


def form_refusal(call):
    """BAD_FORM, which comes first, or OUT_OF_RANGE, or FINE."""
    if not is_told(call):
        return BAD_FORM
    fits = FORMS[call[0]][1]
    if not fits(call[1:]):
        return OUT_OF_RANGE
    return FINE
