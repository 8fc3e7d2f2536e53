"""Which updates the places know and have, whoever tells what happens."""

from causeloops.graphs import count_places
from causeloops.kinds import is_below


class News:
    """The updates so far, numbered as they were written; some of them together are bits of an integer."""

    def __init__(self, placement):
        count = count_places(placement)
        self.sites = placement[0]
        self.causes = []
        self.known = [0] * count
        self.had = [0] * count
        self.kept = [0] * count

    def write(self, site, register):
        """A site writes a register."""
        bit = 1 << len(self.causes)
        self.causes.append(self.known[site])
        self.gain(site, bit)
        for place, registers in enumerate(self.sites):
            if register in registers:
                self.kept[place] = self.kept[place] | bit

    def apply(self, site, number):
        """A site applies an update."""
        self.gain(site, 1 << number)
        self.known[site] = self.known[site] | self.causes[number]

    def gain(self, site, bit):
        """A site has one more update."""
        self.had[site] = self.had[site] | bit
        self.known[site] = self.known[site] | bit

    def visit(self, client, site):
        """A client and a site tell each other what they know."""
        both = self.known[client] | self.known[site]
        self.known[client] = both
        self.known[site] = both

    def lacked(self, site, bits):
        """Those of some updates whose register a site keeps and which it does not have."""
        return bits & self.kept[site] & ~self.had[site]

    def is_waiting(self, site, number):
        """Whether any value is the number of an update whose register a site keeps and which it does not have."""
        return is_below(number, len(self.causes)) and self.lacked(site, 1 << number) != 0

    def missing_at(self, site):
        """The ascending tuple of the numbers of all updates whose register a site keeps and which it does not have."""
        return numbers_of(self.lacked(site, self.kept[site]))


def numbers_of(bits):
    """The ascending tuple of the numbers of the updates that bits stand for."""
    return tuple([number for number in range(bits.bit_length()) if bits >> number & 1])
