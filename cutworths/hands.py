"""Pools: a ground cut at a depth, and the jobs that hands take there."""

from cutworths.askers import Asking
from cutworths.checks import is_whole
from cutworths.errors import BadDepth, BadHand, Busy, Given, NoJob, NotOut, TooMany
from cutworths.lattices import check_worth
from cutworths.trees import Tree

_MOST_DEEP = 40
_MOST_SPOTS = 400
_LAST_HAND = 7


class Job:
    """A spot that a hand has taken, with the context that the spot had then."""

    def __init__(self, number, hand, road, context):
        self.number = number
        self.hand = hand
        self.road = road
        self.context = context

    def __eq__(self, other):
        return (isinstance(other, Job) and self.number == other.number and self.hand == other.hand
                and self.road == other.road and self.context == other.context)


def _cut_shape(ground, node, road, depth, spots):
    """Return the shape of a node down to the spots, and put the roads of the spots down."""
    if len(road) == depth or ground.is_end(node):
        if len(spots) == _MOST_SPOTS:
            raise TooMany(_MOST_SPOTS)
        spots.append(road)
        return 0
    shapes = []
    for at, child in enumerate(ground.children_of(node)):
        shapes.append(_cut_shape(ground, child, road + (at,), depth, spots))
    return (ground.sign_of(node), tuple(shapes))


class Pool:
    """The spots of a ground, what is known of them, and the jobs on them."""

    def __init__(self, lattice, ground, depth):
        if not is_whole(depth, 0, _MOST_DEEP):
            raise BadDepth(depth)
        spots = []
        shape = _cut_shape(ground, ground.root_node(), (), depth, spots)
        self.lattice = lattice
        self.spots = tuple(spots)
        self.upper = Tree(shape)
        self.known = ()
        self.jobs = ()
        self._asking = Asking(lattice, self.upper)
        # Told anew only when a worth is noted, for nothing else changes it.
        self._hanging = self._asking.hanging_now()

    @property
    def is_done(self):
        """Whether no spot that is not known hangs."""
        return len(self._hanging) == 0

    def spot_bounds(self, road):
        """Return the low and the high of the node at a road of the upper tree, or raise NoRoad."""
        return self._asking.bounds_at(road)

    def spot_context(self, road):
        """Return the context of the node at a road of the upper tree, or raise NoRoad."""
        return self._asking.context_at(road)

    def hanging_spots(self):
        """Return the roads of the spots that are not known and hang, ascending."""
        return tuple([self.spots[leaf] for leaf in self._hanging])

    def take_job(self, hand):
        """Return the job on the leftmost hanging spot that is free, None without one, or raise BadHand or Busy."""
        if not is_whole(hand, 0, _LAST_HAND):
            raise BadHand(hand)
        out = [job for job in self.jobs if job[3] == "out"]
        if hand in [job[0] for job in out]:
            raise Busy(hand)
        taken = [job[1] for job in out]
        for road in self.hanging_spots():
            if road not in taken:
                job = Job(len(self.jobs), hand, road, self.spot_context(road))
                self.jobs = self.jobs + ((hand, road, job.context, "out"),)
                return job
        return None

    def _standing_of(self, number):
        """Return the standing of a job, or raise NoJob."""
        if not is_whole(number, 0, len(self.jobs) - 1):
            raise NoJob(number)
        return self.jobs[number][3]

    def _stand(self, number, standing):
        """Give a job another standing."""
        job = self.jobs[number][:3] + (standing,)
        self.jobs = self.jobs[:number] + (job,) + self.jobs[number + 1:]

    def drop_job(self, number):
        """Make a job that is out a dropped one, or raise NoJob or NotOut."""
        if self._standing_of(number) != "out":
            raise NotOut(number)
        self._stand(number, "dropped")

    def _note_all(self, rows):
        """Note the worths of spots that are not known, couples (road, worth)."""
        for road, worth in rows:
            self._asking.note_leaf(self.spots.index(road), worth)
        kept = [(spot, self._asking.kept_at(leaf)) for leaf, spot in enumerate(self.spots)]
        self.known = tuple([row for row in kept if row[1] is not None])
        self._hanging = self._asking.hanging_now()

    def give_job(self, number, worth):
        """Make a job a given one and return whether its worth is noted, or raise NoJob, Given or NoWorth."""
        if self._standing_of(number) == "given":
            raise Given(number)
        check_worth(self.lattice, worth)
        self._stand(number, "given")
        road = self.jobs[number][1]
        if road in [spot for spot, _ in self.known]:
            return False
        self._note_all([(road, worth)])
        return True

    def put_back(self, known, jobs):
        """Make a new pool know what another one of the same spots knew, with the jobs of that one."""
        self._note_all(known)
        self.jobs = tuple(jobs)
