"""Rings: what goes up, step by step, and comes back to where it was."""


def ring_upwards(steps, start):
    """The labels along the ring to which the steps up from start lead, from the top of it downwards.

    Steps has, for each thing from which a step goes up, a pair: its label, and the thing to which it leads.
    """
    row = []
    place = {}
    here = start
    while here not in place:
        place[here] = len(row)
        label, above = steps[here]
        row.append(label)
        here = above
    ring = row[place[here]:]
    return tuple(ring[::-1])
