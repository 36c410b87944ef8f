"""Weavings: several hands that search a ground together, a step of one of them at a time."""

from cutworths.askers import check_picks
from cutworths.checks import is_whole
from cutworths.engine import Engine
from cutworths.errors import BadHand, BadHands, Idle
from cutworths.frametext import read_road, road_word
from cutworths.grounds import ground_node
from cutworths.hands import Job, Pool

_MOST_HANDS = 4


def _one_word(text):
    """Return the text of a state as one word."""
    return text.replace("\n", "/").replace(" ", ",")


def _from_one_word(word):
    """Return the text of a state that stands in one word."""
    return word.replace(",", " ").replace("/", "\n")


class Weaving:
    """A pool and the engines with which the hands do its jobs."""

    def __init__(self, lattice, ground, depth, hands, memory=None):
        if not is_whole(hands, 1, _MOST_HANDS):
            raise BadHands(hands)
        self.lattice = lattice
        self.ground = ground
        self.depth = depth
        self.memory = memory
        self.pool = Pool(lattice, ground, depth)
        self.asked = ()
        # The job and the engine of each hand, None for a hand without a job.
        self._jobs = (None,) * hands
        self._engines = (None,) * hands

    @property
    def is_done(self):
        """Whether no spot of the pool hangs."""
        return self.pool.is_done

    def woven_worth(self):
        """Return the low of the root, None as long as spots hang."""
        return self.pool.spot_bounds(())[0] if self.pool.is_done else None

    def _check_hand(self, hand):
        """Raise BadHand if this is none of the hands."""
        if not is_whole(hand, 0, len(self._jobs) - 1):
            raise BadHand(hand)

    def _give_hand(self, hand, job, engine):
        """Give a hand a job and its engine, None and None to free it."""
        self._jobs = self._jobs[:hand] + (job,) + self._jobs[hand + 1:]
        self._engines = self._engines[:hand] + (engine,) + self._engines[hand + 1:]

    def _spot_ground(self, road):
        """Return the ground of a spot."""
        return self.ground.ground_at(ground_node(self.ground, road))

    def _begin_job(self, hand):
        """Let a hand without a job take one, and return the event."""
        job = self.pool.take_job(hand)
        if job is None:
            return ("rest",)
        self._give_hand(hand, job, Engine(self.lattice, self._spot_ground(job.road), job.context, self.memory))
        return ("take", job.number, job.road)

    def _step_job(self, job, engine):
        """Let the engine of a job do one step, and return the event."""
        event = engine.step_once()
        road = job.road + event[1]
        if event[0] == "ask":
            self.asked = self.asked + (road,)
        return ("step", job.number, (event[0], road) + event[2:])

    def turn_hand(self, hand):
        """Let a hand do one turn and return its event, or raise BadHand."""
        self._check_hand(hand)
        job, engine = self._jobs[hand], self._engines[hand]
        if job is None:
            return self._begin_job(hand)
        if not engine.ended:
            return self._step_job(job, engine)
        noted = self.pool.give_job(job.number, engine.told)
        self._give_hand(hand, None, None)
        return ("give", job.number, engine.told, noted)

    def leave_job(self, hand):
        """Drop the job of a hand and return its number, or raise BadHand or Idle."""
        self._check_hand(hand)
        job = self._jobs[hand]
        if job is None:
            raise Idle(hand)
        self.pool.drop_job(job.number)
        self._give_hand(hand, None, None)
        return job.number

    def put_away(self):
        """Return the weaving as a text."""
        rows = [["weaving", str(self.depth), str(len(self._jobs))]]
        rows.append(["asked"] + [road_word(road) for road in self.asked])
        for road, worth in self.pool.known:
            rows.append(["known", road_word(road), str(worth)])
        for hand, road, (low, high), standing in self.pool.jobs:
            rows.append(["job", str(hand), road_word(road), str(low), str(high), standing])
        for hand, job in enumerate(self._jobs):
            if job is not None:
                rows.append(["hand", str(hand), str(job.number), _one_word(self._engines[hand].cut_text())])
        return "\n".join([" ".join(row) for row in rows])

    def _take_hand_up(self, words):
        """Give a hand the job and the engine that the words of its row tell."""
        hand, number = int(words[1]), int(words[2])
        job = Job(number, hand, self.pool.jobs[number][1], self.pool.jobs[number][2])
        text = _from_one_word(words[3])
        engine = Engine.gone_on(self.lattice, self._spot_ground(job.road), text, self.memory)
        self._give_hand(hand, job, engine)

    def _take_rows_up(self, rows):
        """Make the weaving, a new one, what the words of these rows tell."""
        self.asked = tuple([read_road(word) for word in rows[1][1:]])
        known = [(read_road(words[1]), int(words[2])) for words in rows if words[0] == "known"]
        jobs = [(int(words[1]), read_road(words[2]), (int(words[3]), int(words[4])), words[5])
                for words in rows if words[0] == "job"]
        self.pool.put_back(known, jobs)
        for words in rows:
            if words[0] == "hand":
                self._take_hand_up(words)

    @staticmethod
    def taken_up(lattice, ground, text, memory=None):
        """Return the weaving of a text that put_away returned for the same lattice and ground."""
        rows = [row.split(" ") for row in text.split("\n")]
        weaving = Weaving(lattice, ground, int(rows[0][1]), int(rows[0][2]), memory)
        weaving._take_rows_up(rows)
        return weaving


def woven_by(lattice, ground, depth, hands, picks, memory=None):
    """Return a weaving behind turns of the hands picked and, until it is done, of all hands in order."""
    weaving = Weaving(lattice, ground, depth, hands, memory)
    check_picks(picks)
    for pick in picks:
        weaving.turn_hand(pick % hands)
    hand = 0
    while not weaving.is_done:
        weaving.turn_hand(hand)
        hand = (hand + 1) % hands
    return weaving
