"""Papers for watches: closing trees and histories (points 9.2 to 9.5)."""

from gatewarden.boxes import halves
from gatewarden.cuts import is_cut
from gatewarden.lanes import LANE_FIELDS, LaneRuns, is_talk_lane, sight_in, has_talk_kind, talk_lanes, whole_ranges
from gatewarden.letters import letters_of
from gatewarden.packets import GREATEST_LENGTH
from gatewarden.searching import searched
from gatewarden.shapes import first_text, is_ascending, is_number, is_tuple
from gatewarden.talks import greatest_state
from gatewarden.views import is_history, least_length
from gatewarden.watches import comes_true


def whole_lane():
    """The lane box of all."""
    return whole_ranges()


def paper_of(watch):
    """A right paper for a watch; a history has the fewest sights."""
    history, tree = searched(watch, False)
    if history is None:
        return ("closed", tree)
    return ("history", history)


def check_paper(watch, value):
    """True if any value is a right paper for a watch."""
    word = first_text(value)
    if word not in ("closed", "history") or len(value) != 2:
        return False
    if word == "closed":
        return _is_closing_tree(watch, value[1])
    history = value[1]
    return is_history(history) and history != () and comes_true(watch, history) == len(history) - 1


def _is_closing_tree(watch, value):
    """True if any value is a closing tree for a watch and the lane box of all."""
    runs = LaneRuns(watch)
    known = {}
    waiting = [(whole_lane(), value)]
    while waiting:
        lane, tree = waiting.pop()
        if is_cut(lane, LANE_FIELDS, tree):
            _, field, at, below, above = tree
            lower, upper = halves(lane, LANE_FIELDS.index(field), at)
            waiting.append((lower, below))
            waiting.append((upper, above))
        elif not _is_leaf(runs, lane, tree, known):
            return False
    return True


def _is_leaf(runs, lane, tree, known):
    """True if any value is a right leaf for a lane box; `known` keeps what was found for talks."""
    word = first_text(tree)
    if word == "empty":
        return len(tree) == 1 and sight_in(lane) is None
    if word == "loose":
        return len(tree) == 1 and not has_talk_kind(lane) and _is_loose(runs, lane)
    if word != "talks" or len(tree) != 3 or not is_talk_lane(lane):
        return False
    _, states, lengths = tree
    if not _are_states(runs.gate_count, lane[0][0], states) or not _are_lengths(lane[0][0], lengths):
        return False
    lanes = talk_lanes(lane, lengths)
    forms = [runs.forms_of(part) for part in lanes]
    key = (lane[0][0], tuple(forms), states)
    if key not in known:
        known[key] = _is_closed(runs, lane[0][0], forms, states)
    return known[key]


def _is_loose(runs, lane):
    """True if both settled runs for kinds without talks come to their end and the watch does not come true."""
    zeros = (0,) * runs.gate_count
    return _is_closed(runs, lane[0][0], [runs.forms_of(lane)], (zeros,))


def _are_states(gates, kind, value):
    """True if any value is an ascending tuple of joint states for a kind, with the one of zeros."""
    top = greatest_state(kind)
    if type(value) != tuple:
        return False
    for states in value:
        if not is_tuple(states, gates) or not all(is_number(state, -top, top) for state in states):
            return False
    return is_ascending(value) and (0,) * gates in value


def _are_lengths(kind, value):
    """True if any value is an ascending tuple of lengths at which those of a kind can be cut."""
    if type(value) != tuple:
        return False
    least = least_length(kind)
    return all(is_number(length, least + 1, GREATEST_LENGTH) for length in value) and is_ascending(value)


def _is_closed(runs, kind, forms, states):
    """True if all settled runs from the states, for a list of forms, come to their end within them and not true."""
    inside = {state: True for state in states}
    letters = letters_of(kind)
    for state in states:
        for letter in letters:
            for k in range(len(forms)):
                opened, after, is_true = runs.run(kind, forms[k], state, letter)
                if opened is not None or is_true or after not in inside:
                    return False
    return True
