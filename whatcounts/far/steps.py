"""The steps of programs."""

from whatcounts.base.names import is_integer, is_text
from whatcounts.errors import TooMany

MAX_NUMBER = (10 ** 50) ** 2


def are_steps(letters, value, most):
    """Whether the value is a tuple of at least one step, and at most so many."""
    if not isinstance(value, tuple) or not 1 <= len(value) <= most:
        return False
    return all([is_step(letters, step, at) for at, step in enumerate(value)])


def is_step(letters, value, at):
    """Whether the value is a step, so many being ahead of it."""
    if not isinstance(value, tuple) or len(value) not in (2, 3):
        return False
    if len(value) == 2:
        return value[0] == "text" and is_text(letters, value[1])
    if value[0] == "join":
        return is_between(value[1], at - 1) and is_between(value[2], at - 1)
    return value[0] == "power" and is_between(value[1], at - 1) and is_between(value[2], MAX_NUMBER)


def is_between(value, most):
    """Whether the value is an integer from 0 to the greatest one."""
    return is_integer(value) and 0 <= value <= most


def step_sizes(steps, limit):
    """The tuple of the numbers of letters of the texts of the steps; an error unless all are less than a limit."""
    sizes = []
    for step in steps:
        if step[0] == "text":
            many = len(step[1])
        elif step[0] == "join":
            many = sizes[step[1]] + sizes[step[2]]
        else:
            many = sizes[step[1]] * step[2]
        if many >= limit:
            raise TooMany(limit)
        sizes.append(many)
    return tuple(sizes)


def shifted_steps(steps, many):
    """The steps behind so many others."""
    shifted = []
    for step in steps:
        if step[0] == "join":
            shifted.append(("join", step[1] + many, step[2] + many))
        elif step[0] == "power":
            shifted.append(("power", step[1] + many, step[2]))
        else:
            shifted.append(step)
    return tuple(shifted)


def steps_below(step):
    """The indices of the steps whose texts are part of the text of a step."""
    if step[0] == "join":
        return step[1:]
    return step[1:2] if step[0] == "power" and step[2] > 0 else ()


def steps_to(steps):
    """The list of the indices of the steps whose texts are part of the text of the last one, ascending."""
    needed = {len(steps) - 1: True}
    for at in range(len(steps) - 1, -1, -1):
        if at in needed:
            for below in steps_below(steps[at]):
                needed[below] = True
    return sorted(needed)


def made_by(steps, tool):
    """What a tool reckons for the text of the last step."""
    made = {}
    for at in steps_to(steps):
        step = steps[at]
        if step[0] == "text":
            made[at] = tool.written(step[1])
        elif step[0] == "join":
            made[at] = tool.joined(made[step[1]], made[step[2]])
        else:
            made[at] = tool.repeated(made[step[1]], step[2]) if step[2] > 0 else tool.written("")
    return made[len(steps) - 1]


def letter_at(steps, sizes, index):
    """The letter at an index of the text of the last step."""
    at, left = len(steps) - 1, index
    while steps[at][0] != "text":
        step = steps[at]
        if step[0] == "power":
            at, left = step[1], left % sizes[step[1]]
        elif left < sizes[step[1]]:
            at = step[1]
        else:
            at, left = step[2], left - sizes[step[1]]
    return steps[at][1][left]
