"""Searches through a tree from the left, and what they pass by."""

from cutworths.contexts import child_context, context_or_root, is_hanging
from cutworths.found import Found
from cutworths.lattices import neutral_worth, taken_in
from cutworths.trees import plain_worth


def plain_search(lattice, tree):
    """Ask every leaf."""
    return Found(plain_worth(lattice, tree), tuple(range(len(tree))), ())


def _bound_of(lattice, sign, above):
    """Return the bound of a node of this sign; above is its parent's sign and so far, or None."""
    if above is not None and above[0] != sign:
        return above[1]
    return lattice.top if sign == "joins" else lattice.bottom


def _is_settled(lattice, sign, bound, so_far):
    """Return whether the bound of a node makes its next child needless."""
    return lattice.at_most(bound, so_far) if sign == "joins" else lattice.at_most(so_far, bound)


def _told_by_parents(lattice, tree, node, above, asked, passed):
    """Return what is told of a node, and put down the leaves asked and the children passed by."""
    if tree.is_leaf(node):
        asked.append(tree.leaves_under(node)[0])
        return tree.nodes[node]
    sign, children = tree.nodes[node]
    bound = _bound_of(lattice, sign, above)
    so_far = neutral_worth(lattice, sign)
    for child in children:
        if _is_settled(lattice, sign, bound, so_far):
            passed.append(tree.leaves_under(child))
        else:
            told = _told_by_parents(lattice, tree, child, (sign, so_far), asked, passed)
            so_far = taken_in(lattice, sign, so_far, told)
    return so_far


def parent_search(lattice, tree):
    """Search by looking at the parent alone, right in every lattice."""
    asked, passed = [], []
    told = _told_by_parents(lattice, tree, 0, None, asked, passed)
    return Found(told, tuple(asked), tuple(passed))


def _steps_from(lattice, tree, node, own):
    """Yield the steps at and beneath a node in its own context; the last one tells what is told of it."""
    first, last = tree.leaves_under(node)
    if not is_hanging(lattice, own):
        yield ("pass", first, last, own, None)
    elif tree.is_leaf(node):
        yield ("ask", first, last, own, tree.nodes[node])
    else:
        sign, children = tree.nodes[node]
        so_far = neutral_worth(lattice, sign)
        for child in children:
            inner = child_context(lattice, sign, own, so_far)
            told = None
            for step in _steps_from(lattice, tree, child, inner):
                told = step[4]
                yield step
            if told is not None:
                so_far = taken_in(lattice, sign, so_far, told)
        yield ("told", first, last, own, so_far)


def cut_steps(lattice, tree, context=None):
    """Yield the steps of the search by contexts: (word, first leaf, last leaf, context, worth)."""
    own = context_or_root(lattice, context)
    yield from _steps_from(lattice, tree, 0, own)


def cut_search(lattice, tree, context=None):
    """Search with a context for each node, right under it in distributive lattices."""
    told = None
    asked, passed = [], []
    for word, first, last, _, worth in cut_steps(lattice, tree, context):
        told = worth
        if word == "ask":
            asked.append(first)
        elif word == "pass":
            passed.append((first, last))
    # Nothing is told last only where the root itself is passed by.
    return Found(lattice.bottom if told is None else told, tuple(asked), tuple(passed))
