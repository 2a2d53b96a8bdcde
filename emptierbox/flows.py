"""Flows: as much as can go from givers to takers by the ways that are open."""


def reached(gives, ways, sent):
    """Tell the givers and takers that are reached from givers with something left.

    Each giver is told with the taker that it was reached back from (None where it
    has something left itself), each taker with its giver, the nearest first.
    """
    givers = {i: None for i, left in enumerate(gives) if left > 0}
    takers = {}
    new = list(givers)
    while new:
        found = [(i, j) for i in new for j in ways[i]]
        new = []
        for i, j in found:
            if j not in takers:
                takers[j] = i
                back = [h for h in range(len(gives)) if h not in givers and sent.get((h, j), 0) > 0]
                givers.update({h: j for h in back})
                new.extend(back)
    return givers, takers


def path_to(j, givers, takers):
    """Tell the ways to a taker: those by which more goes, the last one first, and those by which less does."""
    more, less = [], []
    while j is not None:
        i = takers[j]
        more.append((i, j))
        j = givers[i]
        if j is not None:
            less.append((i, j))
    return more, less


def send(gives, takes, sent, more, less):
    """Send as much as goes along a path, and note what is left to give and to take."""
    start, end = more[-1][0], more[0][1]
    much = min([gives[start], takes[end]] + [sent[way] for way in less])
    gives[start] -= much
    takes[end] -= much
    for way in more:
        sent[way] = sent.get(way, 0) + much
    for way in less:
        sent[way] -= much


def flow(gives, takes, ways):
    """Tell how much goes by each way (i, j), and the givers reached where something is left that can't go.

    ways holds for each giver the list of takers that it may give to.
    """
    gives, takes, sent = list(gives), list(takes), {}
    while True:
        givers, takers = reached(gives, ways, sent)
        ends = [j for j in takers if takes[j] > 0]
        if not ends:
            return sent, list(givers)
        # As much as goes, along a shortest path: so the number of paths hangs
        # on the number of ways alone, not on how much there is to move.
        more, less = path_to(ends[0], givers, takers)
        send(gives, takes, sent, more, less)
