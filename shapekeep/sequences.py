"""What sequences of nodes and of pairs must be like."""


def are_apart(nodes, kind):
    """Tells whether no two nodes of this kind are neighbors."""
    return not [node for node, behind in zip(nodes, nodes[1:]) if node[0] == kind and behind[0] == kind]


def are_pairs(thing, is_called, is_content):
    """Tells whether any value is a tuple of pairs of ascending names, and of contents, of which these hold."""
    if not isinstance(thing, tuple):
        return False
    last = ""
    for pair in thing:
        if not isinstance(pair, tuple) or len(pair) != 2 or not is_called(pair[0]) or not is_content(pair[1]):
            return False
        if pair[0] <= last:
            return False
        last = pair[0]
    return True
