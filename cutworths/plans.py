"""Plans: what one side holds whatever the other does, shown by a certificate of one bound."""

from cutworths.askers import check_picks
from cutworths.certificates import leaves_named
from cutworths.checks import is_sign
from cutworths.errors import BadHolder, TooMany
from cutworths.goals import rival_of
from cutworths.judge import children_at, is_reached, judge_certificate
from cutworths.lattices import gathered
from cutworths.maps import check_firm
from cutworths.trees import node_worths

_MOST_PLANS = 4000


class Plan:
    """A side and the certificate by which it holds a bound."""

    def __init__(self, holder, certificate):
        self.holder = holder
        self.certificate = certificate

    def __eq__(self, other):
        return isinstance(other, Plan) and self.holder == other.holder and self.certificate == other.certificate


def foreign_sign(holder):
    """Return the sign of the nodes that are not the holder's own."""
    return "meets" if holder == "joins" else "joins"


def _check_many(tree, holder):
    """Raise TooMany if there are too many choices."""
    many = [1] * len(tree.nodes)
    # Beneath a node there are never more choices than at it, so the first number that is too great tells.
    for node in reversed(range(len(tree.nodes))):
        children = children_at(tree, node)
        if len(children) > 0:
            own = tree.nodes[node][0] == holder
            many[node] = 0 if own else 1
            for child in children:
                many[node] = many[node] + many[child] if own else many[node] * many[child]
        if many[node] > _MOST_PLANS:
            raise TooMany(_MOST_PLANS)


def _combined(rows):
    """Return each plan of the first row with each of the second and so on, the last changing fastest."""
    if len(rows) == 1:
        return rows[0]
    # In halves, so that long plans are not copied for each child.
    half = len(rows) // 2
    ahead, behind = _combined(rows[:half]), _combined(rows[half:])
    return [one + other for one in ahead for other in behind]


def _plans_at(tree, node, holder):
    """Return the plans at and beneath a node, a list."""
    if tree.is_leaf(node):
        return [tree.leaves_under(node)[:1]]
    sign, children = tree.nodes[node]
    rows = [_plans_at(tree, child, holder) for child in children]
    return [plan for row in rows for plan in row] if sign == holder else _combined(rows)


def all_plans(tree, holder):
    """Return the leaves to which each choice can come, or raise BadHolder or TooMany."""
    if not is_sign(holder):
        raise BadHolder(holder)
    _check_many(tree, holder)
    return tuple(_plans_at(tree, 0, holder))


def worth_by_plans(lattice, tree, holder):
    """Return what the holder makes of all plans, and the other side of each, or raise BadHolder or TooMany."""
    plans = all_plans(tree, holder)
    sums = [gathered(lattice, foreign_sign(holder), [tree.worths[leaf] for leaf in plan]) for plan in plans]
    return gathered(lattice, holder, sums)


def kind_of_bound(holder):
    """Return of which kind the bounds are that a holder holds."""
    return "floor" if holder == "joins" else "ceiling"


def _bound_of(lattice, prime, holder):
    """Return the bound that a holder holds by a prime."""
    return prime if holder == "joins" else rival_of(lattice, prime)


def _part_for(lattice, tree, worths, node, plan):
    """Return the part for a node whose worth reaches the bound; plan is (holder, bound)."""
    holder, bound = plan
    children = children_at(tree, node)
    named = list(range(len(children)))
    if len(children) > 0 and tree.nodes[node][0] == holder:
        named = [at for at in named if is_reached(lattice, kind_of_bound(holder), bound, worths[children[at]])][:1]
    return (bound, tuple([(at, _part_for(lattice, tree, worths, children[at], plan)) for at in named]))


def plan_for(lattice, tree, prime):
    """Return the plan of the side that holds by a prime, or raise NoWorth or NotPrime."""
    check_firm(lattice, prime)
    worths = node_worths(lattice, tree)
    holder = "joins" if lattice.at_most(prime, worths[0]) else "meets"
    return Plan(holder, _part_for(lattice, tree, worths, 0, (holder, _bound_of(lattice, prime, holder))))


def _part_fault(tree, node, road, part, plan):
    """Return the road and the word of the first part that is not the plan's, or None; plan is (holder, bound)."""
    holder, bound = plan
    children = children_at(tree, node)
    if part[0] != bound:
        return (road, "bound")
    if len(children) > 0:
        due = 1 if tree.nodes[node][0] == holder else len(children)
        if len(part[1]) != due:
            return (road, "choice")
    for child, inner in part[1]:
        fault = _part_fault(tree, children[child], road + (child,), inner, plan)
        if fault is not None:
            return fault
    return None


def plan_fault(lattice, tree, prime, plan):
    """Return the road and the word of the first fault of a plan, or None, or raise NoWorth or NotPrime."""
    check_firm(lattice, prime)
    holder = plan.holder
    if not is_sign(holder):
        return ((), "holder")
    fault = judge_certificate(lattice, tree, plan.certificate, kind_of_bound(holder))
    if fault is not None:
        return fault
    return _part_fault(tree, 0, (), plan.certificate, (holder, _bound_of(lattice, prime, holder)))


def picked_at(picks, used, many):
    """Return which of so many children is picked when so many picks have been used."""
    return picks[used] % many if used < len(picks) else 0


def walk_plan(tree, plan, picks):
    """Return the road to the leaf that is met if the holder follows the plan, or raise BadPicks."""
    check_picks(picks)
    road, used = (), 0
    node, part = 0, plan.certificate
    while not tree.is_leaf(node):
        sign, children = tree.nodes[node]
        # At an own node one part is there to be taken, at a foreign one there is one for each child.
        at = 0
        if sign != plan.holder:
            at = picked_at(picks, used, len(children))
            used += 1
        child, part = part[1][at]
        road = road + (child,)
        node = children[child]
    return road


def plan_ends(tree, plan):
    """Return all leaves that can be met if the holder follows the plan, ascending."""
    # No bound is None, so every leaf with a part is named.
    return leaves_named(tree, plan.certificate, 0, None)
