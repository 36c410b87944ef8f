"""Pools and jobs [12.1] to [12.5], [12.10]."""

import random

from cutworths.contexts import agree_under
from cutworths.errors import BadDepth, BadHand, Busy, Given, NoJob, NoRoad, NotOut, NoWorth, TooMany
from cutworths.grounds import GameGround, TreeGround
from cutworths.hands import Job, Pool
from cutworths.making import chain_lattice, pentagon_lattice, set_lattice
from cutworths.trees import Tree
from tests.base import NO_NUMBERS, Case
from tests.edges import PLAYS_4000, PLAYS_4001, game
from tests.games import plain_rules
from tests.growing import DISTRIBUTIVE, LATTICES, OTHERS, Plain
from tests.test_askers import Own
from tests.views import all_roads, node_at, plain_at, some_views

EXAMPLE = ("joins", (("meets", (1, 3)), ("meets", (2, 3))))


def own_spots(view, depth, node=None, road=()):
    """The roads of the spots and the upper shape, straight from [12.1]."""
    node = view.root if node is None else node
    if view.end(node) is not None or len(road) == depth:
        return [road], 0
    spots, shapes = [], []
    for at, child in enumerate(view.children(node)):
        more, shape = own_spots(view, depth, child, road + (at,))
        spots.extend(more)
        shapes.append(shape)
    return spots, (view.sign(node), tuple(shapes))


class OwnPool:
    """A pool by [12.2] to [12.4]."""

    def __init__(self, plain, view, depth):
        self.plain = plain
        self.spots, self.shape = own_spots(view, depth)
        self.asking = Own(plain, self.shape)
        self.jobs = []

    def known(self):
        return tuple((road, worth) for road, worth in zip(self.spots, self.asking.kept) if worth is not None)

    def hanging(self):
        return tuple(self.spots[leaf] for leaf in self.asking.hanging())

    def out(self, at):
        return [job[at] for job in self.jobs if job[3] == "out"]

    def take(self, hand):
        free = [road for road in self.hanging() if road not in self.out(1)]
        if not free:
            return None
        self.jobs.append((hand, free[0], self.asking.context(free[0]), "out"))
        return (len(self.jobs) - 1, hand, free[0], self.jobs[-1][2])

    def stand(self, number, standing):
        self.jobs[number] = self.jobs[number][:3] + (standing,)

    def give(self, number, worth):
        self.stand(number, "given")
        leaf = self.spots.index(self.jobs[number][1])
        if self.asking.kept[leaf] is not None:
            return False
        self.asking.kept[leaf] = worth
        return True


def state_of(pool):
    """All that can be seen of a pool."""
    roads = [pool.upper.road_of(node) for node in range(len(pool.upper.nodes))]
    return (pool.spots, pool.upper.shape, pool.known, pool.jobs, [pool.spot_bounds(road) for road in roads],
            [pool.spot_context(road) for road in roads], pool.hanging_spots(), pool.is_done)


class TestCutting(Case):
    def test_spots_in_every_lattice(self):
        for lattice in LATTICES:
            for view in some_views(lattice, "spots", 6, 1):
                for depth in (0, 1, 2, 3, 8, 40):
                    spots, shape = own_spots(view, depth)
                    pool = Pool(lattice, view.ground(), depth)
                    self.exactly((pool.spots, pool.upper.shape), (tuple(spots), shape))
                    self.assertEqual(pool.upper, Tree(shape))
                    self.exactly(pool.spots, tuple(sorted(spots)))
                    self.exactly((pool.known, pool.jobs), ((), ()))
                    for leaf, road in enumerate(pool.spots):
                        self.exactly(pool.upper.node_at(road), pool.upper.leaves[leaf])

    def test_depth_0_is_the_root_alone(self):
        pool = Pool(set_lattice(2), TreeGround(Tree(EXAMPLE)), 0)
        self.exactly((pool.spots, pool.upper.shape, pool.hanging_spots(), pool.is_done), (((),), 0, ((),), False))
        self.exactly((pool.spot_bounds(()), pool.spot_context(())), ((0, 3), (0, 3)))
        self.exactly((pool.take_job(0).road, pool.give_job(0, 3), pool.spot_bounds(()), pool.is_done), ((), True, (3, 3), True))

    def test_a_ground_that_is_an_end(self):
        for ground in (TreeGround(Tree(2)), GameGround(plain_rules(), (("", "", "dot", "ant"), 0, 2))):
            for depth in (0, 1, 40):
                self.exactly(Pool(set_lattice(2), ground, depth).spots, ((),))

    def test_a_part_of_a_tree(self):
        self.exactly(Pool(set_lattice(2), TreeGround(Tree(EXAMPLE), 4), 1).spots, ((0,), (1,)))

    def test_the_greatest_depth(self):
        shape = 1
        for _ in range(40):
            shape = ("joins", (shape,))
        for depth in (39, 40):
            pool = Pool(set_lattice(2), TreeGround(Tree(shape)), depth)
            self.exactly(pool.spots, ((0,) * depth,))
            self.exactly(pool.upper.tree_depth, depth)

    def test_bad_depths(self):
        for depth in (-1, 41, 10 ** 20) + NO_NUMBERS:
            self.refused(BadDepth, {"depth": depth}, Pool, set_lattice(2), TreeGround(Tree(EXAMPLE)), depth)
            self.refused(BadDepth, {"depth": depth}, Pool, set_lattice(2), TreeGround(Tree(("joins", (1,) * 401))), depth)

    def test_400_spots_and_one_more(self):
        lattice = set_lattice(2)
        for many, wide in ((400, (200, 200)), (401, (200, 201)), (4000, (1, 3999))):
            flat = TreeGround(Tree(("joins", (1,) * many)))
            deep = TreeGround(Tree(("joins", tuple(("meets", (1,) * part) for part in wide))))
            for ground, depth in ((flat, 1), (flat, 40), (deep, 2), (deep, 40)):
                if many == 400:
                    self.exactly(len(Pool(lattice, ground, depth).spots), 400)
                else:
                    self.refused(TooMany, {"most": 400}, Pool, lattice, ground, depth)
            self.exactly(len(Pool(lattice, flat, 0).spots), 1)
            self.exactly(len(Pool(lattice, deep, 1).spots), 2)
        rules, start = game(PLAYS_4000)
        self.refused(TooMany, {"most": 400}, Pool, lattice, GameGround(rules, start), 40)
        rules, start = game(PLAYS_4001)
        self.refused(TooMany, {"most": 400}, Pool, lattice, GameGround(rules, start), 8)

    def test_two_faults(self):
        ground = TreeGround(Tree(("joins", (1,) * 401)))
        self.refused(BadDepth, {"depth": True}, Pool, set_lattice(2), ground, True)
        self.refused(TooMany, {"most": 400}, Pool, set_lattice(2), ground, 1)


class TestCalls(Case):
    def compare(self, pool, own):
        roads = [pool.upper.road_of(node) for node in range(len(pool.upper.nodes))]
        hanging = own.hanging()
        self.exactly(state_of(pool), (tuple(own.spots), own.shape, own.known(), tuple(own.jobs),
                                      [own.asking.bounds(road) for road in roads],
                                      [own.asking.context(road) for road in roads], hanging, hanging == ()))

    def one_call(self, draw, lattice, pool, own):
        what, hand = draw.choice(("take", "take", "take", "drop", "give", "give")), draw.randrange(8)
        number = draw.randrange(max(1, len(own.jobs)) + 1) if draw.random() < 0.1 else draw.randrange(max(1, len(own.jobs)))
        if what == "take":
            if hand in own.out(0):
                self.refused(Busy, {"hand": hand}, pool.take_job, hand)
            else:
                job, wanted = pool.take_job(hand), own.take(hand)
                self.exactly(job and (job.number, job.hand, job.road, job.context), wanted)
                self.assertTrue(job is None or isinstance(job, Job))
        elif number >= len(own.jobs):
            self.refused(NoJob, {"number": number}, pool.drop_job, number)
            self.refused(NoJob, {"number": number}, pool.give_job, number, 99)
        elif what == "drop":
            if own.jobs[number][3] != "out":
                self.refused(NotOut, {"number": number}, pool.drop_job, number)
            else:
                self.exactly(pool.drop_job(number), None)
                own.stand(number, "dropped")
        elif own.jobs[number][3] == "given":
            self.refused(Given, {"number": number}, pool.give_job, number, draw.choice((0, 99)))
        else:
            worth = draw.randrange(lattice.size)
            self.refused(NoWorth, {"worth": lattice.size}, pool.give_job, number, lattice.size)
            self.exactly(pool.give_job(number, worth), own.give(number, worth))

    def test_rows_of_calls_in_every_lattice(self):
        for lattice in LATTICES:
            plain, draw = Plain(lattice), random.Random(lattice.size)
            for view in some_views(lattice, "calls", 4, 1):
                depth = draw.randrange(4)
                pool, own = Pool(lattice, view.ground(), depth), OwnPool(plain, view, depth)
                self.compare(pool, own)
                for _ in range(25):
                    self.one_call(draw, lattice, pool, own)
                    self.compare(pool, own)

    def test_example(self):
        pool = Pool(set_lattice(2), TreeGround(Tree(EXAMPLE)), 1)
        self.exactly(pool.spots, ((0,), (1,)))
        one, other = pool.take_job(0), pool.take_job(1)
        self.assertEqual((one, other), (Job(0, 0, (0,), (0, 3)), Job(1, 1, (1,), (0, 3))))
        self.exactly(pool.give_job(1, 2), True)
        self.exactly((pool.spot_bounds(()), pool.spot_context((0,))), ((2, 3), (2, 3)))
        self.exactly(pool.jobs[0], (0, (0,), (0, 3), "out"))
        self.exactly(pool.give_job(0, 1), True)
        self.exactly((pool.spot_bounds(()), pool.is_done, pool.hanging_spots()), ((3, 3), True, ()))
        self.exactly(pool.jobs, ((0, (0,), (0, 3), "given"), (1, (1,), (0, 3), "given")))
        self.exactly(pool.take_job(0), None)

    def test_jobs_out_given_and_dropped(self):
        pool = Pool(chain_lattice(4), TreeGround(Tree(("joins", (1, 2, 3)))), 1)
        for hand in range(3):
            pool.take_job(hand)
        # No job is free for a fourth hand, nor a second one for a hand.
        self.exactly(pool.take_job(7), None)
        self.refused(Busy, {"hand": 1}, pool.take_job, 1)
        pool.drop_job(1)
        self.refused(NotOut, {"number": 1}, pool.drop_job, 1)
        # The spot is free again; a late worth of the dropped job is noted first.
        again = pool.take_job(7)
        self.exactly((again.number, again.road), (3, (1,)))
        self.exactly(pool.give_job(1, 2), True)
        self.refused(Given, {"number": 1}, pool.give_job, 1, 2)
        self.refused(NotOut, {"number": 1}, pool.drop_job, 1)
        self.exactly(pool.give_job(3, 0), False)
        self.exactly(pool.known, (((1,), 2),))
        self.exactly([job[3] for job in pool.jobs], ["out", "given", "out", "given"])
        # A job that is out stays out though its spot no longer hangs.
        pool.give_job(2, 3)
        self.exactly((pool.is_done, pool.jobs[0][3]), (True, "out"))
        self.refused(Busy, {"hand": 0}, pool.take_job, 0)
        self.exactly(pool.give_job(0, 1), True)
        self.exactly((pool.known, pool.spot_bounds(())), ((((0,), 1), ((1,), 2), ((2,), 3)), (3, 3)))

    def test_a_hand_whose_job_was_dropped_takes_another(self):
        pool = Pool(chain_lattice(4), TreeGround(Tree(("joins", (1, 2)))), 1)
        pool.take_job(3)
        pool.drop_job(0)
        self.assertEqual(pool.take_job(3), Job(1, 3, (0,), (0, 3)))
        self.exactly(pool.jobs, ((3, (0,), (0, 3), "dropped"), (3, (0,), (0, 3), "out")))

    def test_refusals(self):
        pool = Pool(set_lattice(2), TreeGround(Tree(EXAMPLE)), 1)
        pool.take_job(0)
        before = state_of(pool)
        for hand in (-1, 8, 10 ** 20) + NO_NUMBERS:
            self.refused(BadHand, {"hand": hand}, pool.take_job, hand)
        self.refused(Busy, {"hand": 0}, pool.take_job, 0)
        for number in (-1, 1, 10 ** 20) + NO_NUMBERS:
            self.refused(NoJob, {"number": number}, pool.drop_job, number)
            self.refused(NoJob, {"number": number}, pool.give_job, number, 1)
            self.refused(NoJob, {"number": number}, pool.give_job, number, 4)
        for worth in (-1, 4) + NO_NUMBERS:
            self.refused(NoWorth, {"worth": worth}, pool.give_job, 0, worth)
        for road in ((2,), (-1,), (0, 0), (True,), (None,)):
            self.refused(NoRoad, {"road": road}, pool.spot_bounds, road)
            self.refused(NoRoad, {"road": road}, pool.spot_context, road)
        self.exactly(state_of(pool), before)
        pool.give_job(0, 1)
        before = state_of(pool)
        self.refused(Given, {"number": 0}, pool.give_job, 0, 4)
        self.exactly(state_of(pool), before)
        self.exactly(pool.spot_bounds([0]), (1, 1))
        self.exactly(pool.spot_context([0]), (0, 3))

    def test_one_worth_alone(self):
        pool = Pool(set_lattice(0), TreeGround(Tree(("joins", (0, 0)))), 1)
        self.exactly((pool.is_done, pool.hanging_spots(), pool.take_job(0), pool.spot_bounds(())), (True, (), None, (0, 0)))

    def test_400_spots(self):
        lattice = chain_lattice(3)
        pool = Pool(lattice, TreeGround(Tree(("joins", (("meets", (1, 2) * 100), ("meets", (2, 0) * 100))))), 2)
        while not pool.is_done:
            job = pool.take_job(0)
            pool.give_job(job.number, 1 if job.road[0] == 0 else 2)
        self.exactly((len(pool.jobs), pool.spot_bounds(())), (400, (2, 2)))


class TestInDistributiveLattices(Case):
    def grown(self, lattice, view, draw, depth):
        """A pool behind some calls, each worth given agreeing with the spot's plain worth under the job's context."""
        plain, pool = Plain(lattice), Pool(lattice, view.ground(), depth)
        true = {road: plain_at(plain, view, node_at(view, road)) for road in pool.spots}
        never, bounds = set(), None
        for _ in range(60):
            out = [number for number, job in enumerate(pool.jobs) if job[3] == "out"]
            late = [number for number, job in enumerate(pool.jobs) if job[3] == "dropped"]
            free = [hand for hand in range(8) if hand not in [pool.jobs[number][0] for number in out]]
            what = draw.choice(("take", "take", "drop", "give", "give", "late"))
            if what == "take" and free:
                pool.take_job(draw.choice(free))
            elif what == "drop" and out:
                pool.drop_job(draw.choice(out))
            elif what == "give" and out or what == "late" and late:
                number = draw.choice(out if what == "give" else late)
                _, road, context, _ = pool.jobs[number]
                alike = [worth for worth in plain.worths if agree_under(lattice, context, worth, true[road])]
                pool.give_job(number, draw.choice(alike))
            hanging = set(pool.hanging_spots())
            self.exactly(never & hanging, set())
            never |= set(pool.spots) - hanging
            self.check_root(plain, pool, true, draw)
            bounds = self.check_bounds(plain, pool, bounds)
        return pool, true

    def check_root(self, plain, pool, true, draw):
        """[12.5] (a) and (c), the spots not known filled by chance."""
        known = dict(pool.known)
        low, high = pool.spot_bounds(())
        self.exactly(pool.is_done, low == high)
        for _ in range(3):
            filling = {road: draw.choice(plain.worths) for road in pool.spots}
            worths = []
            for rest in (known, true):
                row = [rest[road] if road in known else filling[road] for road in pool.spots]
                worths.append(self.filled_worth(plain, pool, row))
            self.exactly(worths[0], worths[1])
        if pool.is_done:
            self.exactly(low, self.filled_worth(plain, pool, [true[road] for road in pool.spots]))

    def filled_worth(self, plain, pool, row):
        left = list(row)

        def worth(shape):
            return left.pop(0) if isinstance(shape, int) else plain.all_of(shape[0], [worth(child) for child in shape[1]])
        return worth(pool.upper.shape)

    def check_bounds(self, plain, pool, before):
        """Lows only rise, highs only fall."""
        roads = [pool.upper.road_of(node) for node in range(len(pool.upper.nodes))]
        bounds = [pool.spot_bounds(road) for road in roads]
        for (low, high), (new_low, new_high) in zip(before or bounds, bounds):
            self.assertTrue(plain.table[low][new_low] and plain.table[new_high][high])
        return bounds

    def test_stale_contexts(self):
        done = 0
        for lattice in DISTRIBUTIVE:
            draw = random.Random(lattice.size)
            for view in some_views(lattice, "stale", 5, 1):
                pool, _ = self.grown(lattice, view, draw, draw.choice((1, 2, 2, 3)))
                done += pool.is_done
        self.assertTrue(done > 20)

    def test_bounds_in_other_lattices(self):
        for lattice in OTHERS:
            plain, draw = Plain(lattice), random.Random(lattice.size)
            for view in some_views(lattice, "rise", 4):
                pool, bounds = Pool(lattice, view.ground(), 2), None
                while (job := pool.take_job(0)) is not None:
                    pool.give_job(job.number, draw.choice(plain.worths))
                    bounds = self.check_bounds(plain, pool, bounds)
                self.exactly(pool.is_done, True)

    def test_every_road_of_the_upper_tree(self):
        for view in some_views(pentagon_lattice(), "upper", 4, 1):
            pool = Pool(pentagon_lattice(), view.ground(), 2)
            roads = [road for road in all_roads(view) if len(road) <= 2]
            self.exactly([pool.spot_bounds(road) for road in roads], [(0, 4)] * len(roads))


class TestJob(Case):
    def test_a_result(self):
        job = Job(0, 1, (0,), (0, 3))
        self.assertEqual(job, Job(0, 1, (0,), (0, 3)))
        for other in (Job(1, 1, (0,), (0, 3)), Job(0, 2, (0,), (0, 3)), Job(0, 1, (1,), (0, 3)), Job(0, 1, (0,), (1, 3)),
                      (0, 1, (0,), (0, 3)), None):
            self.assertNotEqual(job, other)
        things = [object(), [1], {}, None]
        for thing, name in zip(things, ("number", "hand", "road", "context")):
            self.assertIs(getattr(Job(*things), name), thing)
