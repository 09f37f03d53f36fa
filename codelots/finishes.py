"""The parts of a finish."""


def ways(finish):
    """The ways on: a tuple of pairs, the name of a block and the values for it."""
    if finish[0] == "go":
        return ((finish[1], finish[2]),)
    if finish[0] == "when":
        return ((finish[2], finish[3]), (finish[4], finish[5]))
    return ()


def finish_values(finish):
    """All values that a finish takes, some perhaps twice."""
    if finish[0] == "go":
        return finish[2]
    if finish[0] == "when":
        return (finish[1],) + finish[3] + finish[5]
    return finish[1]


def renamed_finish(finish, names):
    """The finish with each value as names tells it."""
    if finish[0] == "go":
        return ("go", finish[1], renamed(finish[2], names))
    if finish[0] == "when":
        word, value, block, args, other_block, others = finish
        return (word, names[value], block, renamed(args, names), other_block, renamed(others, names))
    return ("stop", renamed(finish[1], names))


def renamed(args, names):
    """A tuple of values, each as names tells it."""
    return tuple([names[value] for value in args])
