"""Policies: what one side does in each position of a web to hold what it holds by a prime."""

from cutworths.askers import check_picks
from cutworths.checks import is_sequence, is_sequence_of, is_sign, is_whole
from cutworths.maps import check_firm
from cutworths.plans import picked_at
from cutworths.positions import sign_at
from cutworths.webs import web_worths


class Policy:
    """A side and, for each position of a web, the place of the next position that it chooses, or None."""

    def __init__(self, prime, holder, choices):
        self.prime = prime
        self.holder = holder
        self.choices = tuple(choices) if is_sequence(choices) else choices

    def __eq__(self, other):
        return (isinstance(other, Policy) and self.prime == other.prime and self.holder == other.holder
                and self.choices == other.choices)


class Play:
    """A play: its road, the numbers of its positions, and its end worth."""

    def __init__(self, road, numbers, worth):
        self.road = road
        self.numbers = numbers
        self.worth = worth

    def __eq__(self, other):
        return (isinstance(other, Play) and self.road == other.road and self.numbers == other.numbers
                and self.worth == other.worth)


def _misses(lattice, prime, holder, worth):
    """Return whether a worth misses what the holder holds by the prime."""
    return lattice.at_most(prime, worth) != (holder == "joins")


def _is_own(web, number, holder):
    """Return whether a position is open and its holder is to move."""
    return web.ends[number] is None and sign_at(web.positions[number]) == holder


def policy_for(lattice, web, prime):
    """Return the policy of the side that holds by a prime, or raise NoWorth or NotPrime."""
    check_firm(lattice, prime)
    worths = web_worths(lattice, web)
    holder = "joins" if lattice.at_most(prime, worths[0]) else "meets"
    choices = [None] * len(web)
    met = {0: True}
    # Next positions have greater numbers, so each position is known to be met or not when its turn comes.
    for number, nexts in enumerate(web.nexts):
        if number in met:
            followed = list(nexts)
            if _is_own(web, number, holder):
                right = [at for at, behind in enumerate(nexts) if not _misses(lattice, prime, holder, worths[behind])]
                choices[number] = right[0]
                followed = [nexts[right[0]]]
            for behind in followed:
                met[behind] = True
    return Policy(prime, holder, choices)


def policy_fault(lattice, web, policy):
    """Return the number and the word of the first fault of a policy, or None, or raise NoWorth or NotPrime."""
    prime, holder = policy.prime, policy.holder
    check_firm(lattice, prime)
    if not is_sign(holder):
        return (0, "holder")
    if not is_sequence_of(policy.choices, len(web), len(web)):
        return (0, "choices")
    met = {0: True}
    for number, nexts in enumerate(web.nexts):
        if number in met:
            followed = list(nexts)
            if _is_own(web, number, holder):
                choice = policy.choices[number]
                if not is_whole(choice, 0, len(nexts) - 1):
                    return (number, "choice")
                followed = [nexts[choice]]
            elif web.ends[number] is not None and _misses(lattice, prime, holder, web.ends[number]):
                return (number, "end")
            for behind in followed:
                met[behind] = True
    return None


def play_by(web, policy, picks):
    """Return the play under a policy with picks for the other side, or raise BadPicks."""
    check_picks(picks)
    road, used = (), 0
    numbers = [0]
    while web.ends[numbers[-1]] is None:
        number = numbers[-1]
        if _is_own(web, number, policy.holder):
            at = policy.choices[number]
        else:
            at = picked_at(picks, used, len(web.nexts[number]))
            used += 1
        road = road + (at,)
        numbers.append(web.nexts[number][at])
    return Play(road, tuple(numbers), web.ends[numbers[-1]])
