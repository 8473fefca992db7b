"""Parts of a graph: all in a part are reached from one another."""


def finish_order(edges):
    """All nodes; but for those from which one comes back, a node comes behind all that it reaches."""
    order = []
    known = {}
    for root in edges:
        stack = [] if root in known else [(root, 0)]
        known[root] = True
        while stack != []:
            node, at = stack.pop()
            if at == len(edges[node]):
                order.append(node)
                continue
            stack.append((node, at + 1))
            other = edges[node][at]
            if other not in known:
                known[other] = True
                stack.append((other, 0))
    return order


def turn_round(edges):
    """The edges the other way round."""
    found = {node: [] for node in edges}
    for node in edges:
        for other in edges[node]:
            found[other].append(node)
    return found


def find_parts(edges):
    """The parts as lists, each one ahead of all others that are reached from it."""
    ways = turn_round(edges)
    order = finish_order(edges)
    known = {}
    parts = []
    for root in order[::-1]:
        if root in known:
            continue
        known[root] = True
        part = [root]
        at = 0
        while at < len(part):
            for other in ways[part[at]]:
                if other not in known:
                    known[other] = True
                    part.append(other)
            at += 1
        parts.append(part)
    return parts
