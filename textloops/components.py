"""Which nodes of a graph lead to one another."""


def components(targets):
    """Returns a number for each node, the same one for nodes that lead to one another.

    `targets` has, for each node, the list of those to which it leads. A node leads to no greater number than its own.
    """
    graph = Components(targets)
    for node in range(len(targets)):
        if graph.order[node] is None:
            graph.go_from(node)
    return graph.number_of


class Components:
    """Goes over a graph; `order` tells when each node was met, and `number_of` its number, None until it is known."""

    def __init__(self, targets):
        self.targets = targets
        self.order = [None for _ in targets]
        self.number_of = [None for _ in targets]
        self.lowest = [None for _ in targets]
        self.met = 0
        self.numbered = 0
        self.open_nodes = []

    def go_from(self, start):
        """Numbers all nodes to which the start leads."""
        self.meet(start)
        way = [(start, 0)]
        while way:
            node, at = way.pop()
            if at < len(self.targets[node]):
                way.append((node, at + 1))
                target = self.targets[node][at]
                if self.order[target] is None:
                    self.meet(target)
                    way.append((target, 0))
                elif self.number_of[target] is None:
                    self.lowest[node] = min(self.lowest[node], self.order[target])
            else:
                self.leave(node)
                if way and self.number_of[node] is None:
                    before = way[-1][0]
                    self.lowest[before] = min(self.lowest[before], self.lowest[node])

    def meet(self, node):
        self.order[node] = self.met
        self.lowest[node] = self.met
        self.met += 1
        self.open_nodes.append(node)

    def leave(self, node):
        """Numbers the nodes met since this one if none of them leads to one met before it."""
        if self.lowest[node] == self.order[node]:
            while self.number_of[node] is None:
                self.number_of[self.open_nodes.pop()] = self.numbered
            self.numbered += 1
