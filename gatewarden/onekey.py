"""What the packets of one key do in a row of gates (points 19.1 to 19.3)."""

from gatewarden.books import ACCEPT
from gatewarden.errors import NoWay
from gatewarden.keyruns import KeyRuns
from gatewarden.lanes import LaneRuns
from gatewarden.ranges import set_of


def _runs_of(row, key):
    """The runs of the packets of a key, of which those that pass the row come true."""
    return KeyRuns(LaneRuns(("get", row, (), ACCEPT)), key)


def _ways(row, key):
    """A dict from the states that the talk of a key can have to a history with the fewest sights that leads there."""
    runs = _runs_of(row, key)
    zeros = (0,) * len(row)
    ways = {zeros: ()}
    waiting = [zeros]
    done = 0
    while done < len(waiting):
        states = waiting[done]
        done += 1
        for letter in runs.letters:
            for (least, _), after, _ in runs.outcomes(states, letter):
                if after not in ways:
                    ways[after] = (*ways[states], runs.sight(letter, least))
                    waiting.append(after)
    return ways


def reached(row, key):
    """The pairs of the states that the talk of a key can have and the fewest sights after which it has them."""
    ways = _ways(row, key)
    return [(states, len(ways[states])) for states in sorted(ways)]


def way_to(row, key, states):
    """A history with the fewest sights after which the talk of a key has some states; NoWay if there is none."""
    ways = _ways(row, key)
    if states not in ways:
        raise NoWay("no history leads to these states")
    return ways[states]


def passing(row, key, states):
    """The letters for which a sight of a key with some length passes the row, if its talk has some states."""
    runs = _runs_of(row, key)
    return [letter for letter in runs.letters if any(passes for _, _, passes in runs.outcomes(states, letter))]


def passing_lengths(row, key, states, letter):
    """The set of the lengths of sights of a key with a letter that pass the row, if its talk has some states."""
    outcomes = _runs_of(row, key).outcomes(states, letter)
    return set_of([lengths for lengths, _, passes in outcomes if passes])
