"""The links of Piles as a graph: its ways from the main course inwards are the moments that fit."""

from heapq import heappop, heappush

from stillowed.errors import Refused
from stillowed.piles import links, may_be_over, tops


class LinkGraph:
    """For each frame, the pairs (stage, inner frame) of its links and the stages at which a moment can be innermost."""

    def __init__(self, piles):
        self.first = (piles.book.main(), 0)
        self.over = may_be_over(piles)
        self.onward = {frame: [] for frame in piles.frames}
        self.tops = {}
        for frame, stage, inner in links(piles):
            self.onward[frame].append((stage, inner))
        for frame, stage in tops(piles):
            self.tops.setdefault(frame, []).append(stage)

    def is_visible(self):
        """Whether some moment fits."""
        return self.over or len(self.tops) > 0


def visible_graph(piles):
    """The graph of Piles, if some moment fits; otherwise raises Refused("hidden")."""
    graph = LinkGraph(piles)
    if not graph.is_visible():
        raise Refused("hidden")
    return graph


def nearest(graph, sizes):
    """For each frame (least sum of the sizes of the stages on a way to it, arrival); an arrival is (frame, stage).

    Of several such ways one with the fewest stages is taken.
    """
    found = {}
    queue = [(0, 0, graph.first, ())]
    while queue:
        size, many, frame, arrival = heappop(queue)
        if frame not in found:
            found[frame] = (size, arrival)
            for stage, inner in graph.onward[frame]:
                if inner not in found:
                    heappush(queue, (size + sizes[stage], many + 1, inner, (frame, stage)))
    return found


def rests_on(found, frame):
    """The stages, innermost first, on the way to a frame that arrivals tell."""
    rests = []
    while found[frame][1]:
        frame, stage = found[frame][1]
        rests.append(stage)
    return tuple(rests)


def smallest_moment(graph, sizes):
    """Some moment that fits and whose stages have the least sum of sizes, the fewest stages of several such."""
    if graph.over:
        return ()
    found = nearest(graph, sizes)
    ends = []
    for frame in graph.tops:
        rests = rests_on(found, frame)
        ends.extend([(found[frame][0] + sizes[stage], len(rests), (stage,) + rests) for stage in graph.tops[frame]])
    return min(ends)[2]
