"""Things that lead on to one another: their ranks, and the rings among them."""


def least_ranks(leaders):
    """The least ranks of the things to which no ring leads on, each behind those that lead on to it.

    Leaders has, for each thing, the list of those that lead on to it straight.
    """
    told = {}
    waiting = list(leaders)
    fresh = True
    while fresh:
        fresh = False
        left = []
        for thing in waiting:
            if all([one in told for one in leaders[thing]]):
                told[thing] = max([told[one] + 1 for one in leaders[thing]], default=0)
                fresh = True
            else:
                left.append(thing)
        waiting = left
    return told


def ring_without(leaders, told):
    """A ring among the things that have no rank in told, None where all have one."""
    left = [thing for thing in leaders if thing not in told]
    if not left:
        return None
    row = []
    thing = left[0]
    # Each thing without a rank has such a one leading on to it, so that the walk back never ends but in a ring.
    while thing not in row:
        row.append(thing)
        thing = [one for one in leaders[thing] if one not in told][0]
    found = row[row.index(thing):] + [thing]
    return found[::-1]
