"""Ticks: the plant and the guard going on together."""

from cellline.fluid import conductivity, temperature


def tick(told, line, guard):
    """Steps 1 to 11. Gives back the cell that went to the dialyser, None where it was drained."""
    bypass = guard.bypass
    line.take_in(told, guard.trim)
    leaving = line.move_on(told.flow)
    line.lead(leaving, bypass)
    readings = guard.readings(line.cells[told.c])
    guard.watch(told, readings)
    line.steer_heater(told, readings[2])
    if bypass == 1:
        return None
    return leaving


def cells_led_on(told, line, guard, m):
    """m ticks, and the cells that went to the dialyser in them, in order."""
    led = []
    if told.flow == 0:
        return led
    for i in range(m):
        leaving = tick(told, line, guard)
        if leaving is not None:
            led.append(leaving)
    return led


def valve_numbers(guard):
    """The five numbers that both tick and look answer first."""
    return [guard.bypass, guard.good, guard.held] + guard.latches


def ticks_answer(told, line, guard, m):
    """Do m ticks and tell what tick answers."""
    led = cells_led_on(told, line, guard, m)
    answer = valve_numbers(guard) + [len(led)]
    for cell in led:
        answer.append(conductivity(cell))
        answer.append(temperature(cell))
    return answer
