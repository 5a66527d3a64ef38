"""The runs of a watch for the packets of one key."""

from gatewarden.letters import letters_of


class KeyRuns:
    """The settled runs of the packets of a key, whose ends are known and whose lengths are cut.

    So all of them come to their end. `runs` are the LaneRuns of the watch.
    """

    def __init__(self, runs, key):
        self.runs = runs
        self.kind = key[0]
        self.ends = key[1:]
        # The lengths are cut, and streams and askings have the code 0, so both need not be told.
        lane = tuple((number, number) for number in (key[0], *key[1], *key[2]))
        _, lanes, self.forms = runs.talk_forms(lane)
        self.lengths = [part[-1] for part in lanes]
        self.letters = letters_of(self.kind)

    def outcomes(self, states, letter):
        """For each range of lengths: the range, the states after a packet, and whether the watch comes true."""
        found = []
        for k in range(len(self.forms)):
            _, after, is_true = self.runs.run(self.kind, self.forms[k], states, letter)
            found.append((self.lengths[k], after, is_true))
        return found

    def sight(self, letter, length):
        """The sight of the key with a letter and a length."""
        sender, interface, flags = letter
        return (interface, self.kind, *self.ends[sender], *self.ends[1 - sender], flags, 0, length)
