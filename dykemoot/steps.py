"""Walks from side to side: a step is a tuple (dyke, near, far, number), what the number says is its maker's own."""


# The step by which each side is first come to, None for the starts. A dict keeps the order in which they are come to.
def spread(starts, steps):
    came = dict([(side, None) for side in starts])
    waiting = list(starts)
    while waiting:
        near = waiting.pop(0)
        for step in steps:
            if step[1] == near and step[2] not in came:
                came[step[2]] = step
                waiting.append(step[2])
    return came


# No side is come to twice, so none is on the path twice.
def path_to(came, side):
    path = []
    step = came[side]
    while step is not None:
        path.append(step)
        step = came[step[1]]
    return list(reversed(path))
