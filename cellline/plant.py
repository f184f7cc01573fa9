"""The interface: a list of calls on one new machine, and what they answer."""

from cellline.calls import Machine, answer_of


def answers(calls):
    """For each call (0, how many numbers it has, these): how many numbers are answered, then these."""
    machine = Machine()
    given = []
    at = 0
    while at < len(calls):
        start = at + 2
        end = start + calls[at + 1]
        answer = answer_of(machine, calls[start:end])
        given.append(len(answer))
        given.extend(answer)
        at = end
    return given
