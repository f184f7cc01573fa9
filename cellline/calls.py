"""The calls, by their places: what each changes and what it answers."""

from cellline.fluid import seven_numbers
from cellline.form import FINE, form_refusal
from cellline.guard import Guard
from cellline.line import Line
from cellline.ticks import ticks_answer, valve_numbers
from cellline.told import Told

LAY = 0
NOT_LAID = -2
REFUSED = -3
DONE = 0
LINES_MOST = 50
CONTAINERS_MOST = 100
TICKS_MOST = 20000


class Machine:
    """The one object that a list of calls works on."""

    def __init__(self):
        self.told = Told()
        self.line = Line()
        self.guard = Guard()
        self.ticks = 0
        self.hung = 0
        self.laid = 0


def lay(machine, args):
    """n, c, k, v."""
    if machine.laid >= LINES_MOST:
        return [REFUSED]
    machine.laid += 1
    machine.line.lay(args[0], args[3])
    machine.told.c = args[1]
    machine.told.k = args[2]
    machine.guard.begin_line()
    return [DONE]


def asks_too_much(pn, pd, qn, qd):
    """Whether 1.3 * pn / pd + qn / qd is more than 1, multiplied out so that it's exact."""
    return 13 * pn * qd + 10 * qn * pd > 10 * pd * qd


def recipe(machine, args):
    """pn, pd, qn, qd."""
    if asks_too_much(args[0], args[1], args[2], args[3]):
        return [REFUSED]
    told = machine.told
    told.pn = args[0]
    told.pd = args[1]
    told.qn = args[2]
    told.qd = args[3]
    machine.line.forget_gathered()
    return [DONE]


def hang(machine, args):
    """which, v, p, q, r."""
    if machine.hung >= CONTAINERS_MOST:
        return [REFUSED]
    machine.hung += 1
    return [machine.line.hang(args[0], tuple(args[1:]))]


def flow(machine, args):
    """f."""
    machine.told.flow = args[0]
    return [DONE]


def window(machine, args):
    """lo, hi, tlo, thi."""
    told = machine.told
    told.lo = args[0]
    told.hi = args[1]
    told.tlo = args[2]
    told.thi = args[3]
    machine.guard.forget_good()
    return [DONE]


def control(machine, args):
    """target, kp, ki, im."""
    told = machine.told
    told.target = args[0]
    told.kp = args[1]
    told.ki = args[2]
    told.im = args[3]
    machine.guard.forget_trim()
    return [DONE]


def heat(machine, args):
    """set, band, power, inlet."""
    told = machine.told
    told.setpoint = args[0]
    told.band = args[1]
    told.power = args[2]
    told.inlet = args[3]
    machine.line.heater = 0
    return [DONE]


def apart(machine, args):
    """d, td."""
    machine.told.d = args[0]
    machine.told.td = args[1]
    return [DONE]


def tick(machine, args):
    """m."""
    if machine.ticks + args[0] > TICKS_MOST:
        return [REFUSED]
    machine.ticks += args[0]
    return ticks_answer(machine.told, machine.line, machine.guard, args[0])


def fault(machine, args):
    """channel, mode, v."""
    machine.guard.channels[args[0]] = (args[1], args[2])
    return [DONE]


def hold(machine, args):
    """x."""
    machine.guard.held = args[0]
    if args[0] == 1:
        machine.guard.bypass = 1
    return [DONE]


def check(machine, args):
    """Latches are only lowered where no channel could put them up again at once."""
    not_true = machine.guard.not_true()
    if not_true == 0:
        machine.guard.lower_latches()
    return [not_true]


def look(machine, args):
    """The guard's numbers, and the heater and the gathered parts among them."""
    guard = machine.guard
    line = machine.line
    gathered = [line.gathered_a, line.gathered_b]
    return valve_numbers(guard) + guard.unlike + [line.heater] + gathered + [guard.error_sum, guard.trim]


def cell(machine, args):
    """i."""
    if args[0] >= len(machine.line.cells):
        return [REFUSED]
    return seven_numbers(machine.line.cells[args[0]])


def chamber(machine, args):
    """The chamber's mix."""
    return seven_numbers(machine.line.chamber)


def supply(machine, args):
    """which."""
    return list(machine.line.containers[args[0]])


def totals(machine, args):
    """Where all fluid came from and went."""
    line = machine.line
    return list(line.came_in + line.dialysed + line.drained + line.thrown)


def would(machine, args):
    """m. The ticks are done by twins, so that nothing here is changed; what is told a tick only reads."""
    return ticks_answer(machine.told, machine.line.twin(), machine.guard.twin(), args[0])


def time(machine, args):
    """How often there was a tick, a container, a line."""
    return [machine.ticks, machine.hung, machine.laid]


PLACES = (
    lay,
    recipe,
    hang,
    flow,
    window,
    control,
    heat,
    apart,
    tick,
    fault,
    hold,
    check,
    look,
    cell,
    chamber,
    supply,
    totals,
    would,
    time,
)


def answer_of(machine, call):
    """What one call answers; the refusals that many calls share come before the call's own."""
    refusal = form_refusal(call)
    if refusal != FINE:
        return [refusal]
    if call[0] != LAY and machine.laid == 0:
        return [NOT_LAID]
    answer = PLACES[call[0]]
    return answer(machine, call[1:])
