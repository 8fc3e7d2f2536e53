"""Placements made ready for searches."""

from causeloops.graphs import count_places, is_step


class Net:
    """The steps of a valid placement.

    The registers are bits of integers, so that one `&` compares all that two places keep.
    """

    def __init__(self, placement):
        numbers = range(count_places(placement))
        self.sites = len(placement[0])
        self.near = [[other for other in numbers if is_step(placement, one, other)] for one in numbers]
        self.bits = kept_bits(placement)

    def bits_of(self, way):
        """The bits of all registers that some place of a way keeps."""
        bits = 0
        for place in way:
            bits = bits | self.bits[place]
        return bits

    def passes(self, one, other, hidden):
        """Whether two different places have a step that is a visit, or by a register that is not hidden."""
        if one >= self.sites or other >= self.sites:
            return other in self.near[one]
        both = self.bits[one] & self.bits[other]
        return both & hidden != both


def net_within(placement, group):
    """The net of a valid placement with only the steps between places of a group."""
    net = Net(placement)
    net.near = [[other for other in near if place in group and other in group] for place, near in enumerate(net.near)]
    return net


def kept_bits(placement):
    """A list with, for each place, the bits of the registers that it keeps."""
    sites, clients = placement
    numbers = {}
    for row in sites:
        for register in row:
            numbers.setdefault(register, len(numbers))
    bits = [sum([1 << numbers[name] for name in kept]) for kept in sites]
    return bits + [0] * len(clients)
