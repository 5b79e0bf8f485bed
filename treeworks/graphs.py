"""Ways and components in graphs, which are dicts with a list of the next nodes for each node."""


def components(graph):
    """For each node a number that it shares with those nodes that can be reached from it and from which it is."""
    order = leaving_order(graph)
    before = {node: [] for node in graph}
    for node in graph:
        for after in graph[node]:
            before[after].append(node)
    found = {}
    many = 0
    for top in reversed(list(order)):
        waiting = [top]
        while waiting:
            node = waiting.pop()
            if node not in found:
                found[node] = many
                waiting.extend(before[node])
        many += 1
    return found


def leaving_order(graph):
    """The nodes in the order in which a walk that goes deep first leaves them."""
    order = []
    met = {}
    for top in graph:
        waiting = [(top, False)]
        while waiting:
            node, entered = waiting.pop()
            if entered:
                order.append(node)
            elif node not in met:
                met[node] = True
                waiting.append((node, True))
                waiting.extend([(after, False) for after in graph[node] if after not in met])
    return order


def shortest_way(steps, first, last):
    """The list of the labels on a shortest way from the first node to the last one; there must be one.

    `steps` has for each node a list of pairs of a label and a next node.
    """
    came = {first: None}
    waiting = [first]
    at = 0
    while last not in came:
        node = waiting[at]
        at += 1
        for label, after in steps[node]:
            if after not in came:
                came[after] = (node, label)
                waiting.append(after)
    return labels_to(came, last)


def labels_to(came, node):
    """The labels on the way that led to a node, if `came` has the node before and the label for each node."""
    labels = []
    while came[node] is not None:
        node, label = came[node]
        labels.append(label)
    return labels[::-1]


def first_of(came, node):
    """The node with which the way to this one began."""
    while came[node] is not None:
        node = came[node][0]
    return node


def reached_from(graph, first):
    """The nodes, as keys, to which ways from a node lead, itself included."""
    found = {first: True}
    waiting = [first]
    while waiting:
        for after in graph[waiting.pop()]:
            if after not in found:
                found[after] = True
                waiting.append(after)
    return found
