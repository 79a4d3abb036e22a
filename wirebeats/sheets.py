"""Sheets: for each plane a list of the words of a small box and of those around it that can be read.

A sheet has a margin on each side, as wide as the greatest distance, so that a word and one that it reads are always
equally many items apart, and nothing needs to be asked about a point when its word is made.
"""

from wirebeats.bounds import MAX_DIST, MODULUS
from wirebeats.boxes import products_of


def strides_of(box):
    """For each axis, how many items of a sheet lie between neighbours; 1 for the last one."""
    strides = []
    stride = 1
    for size in box[::-1]:
        strides = [stride] + strides
        stride = stride * (size + 2 * MAX_DIST)
    return strides


def apart(strides, vector):
    """How many items of a sheet lie between two points, one of which is this vector behind the other."""
    if len(vector) == 2:
        return strides[0] * vector[0] + vector[1]
    return strides[0] * vector[0] + strides[1] * vector[1] + vector[2]


def addresses_of(box, strides):
    """The list of the addresses, which are indexes in a sheet, of the points in ascending order."""
    first = MAX_DIST * sum(strides)
    return [first + product for product in products_of(box, strides)]


def many_of(box, strides):
    """The number of all items of a sheet."""
    return strides[0] * (box[0] + 2 * MAX_DIST)


def sheets_of(flow, box, strides, outside):
    """The sheets of all planes, with the words of the outside and 0 for all others."""
    many = many_of(box, strides)
    sheets = [[0] * many for _ in flow[1]]
    first = MAX_DIST * sum(strides)
    for plane, vector, word in outside:
        # What is further away is read by no point.
        if all([-MAX_DIST <= item < size + MAX_DIST for item, size in zip(vector, box)]):
            sheets[plane][first + apart(strides, vector)] = word
    return sheets


def laid_out(flow, box, outside):
    """The addresses, and for each plane its maker: its kind, its sheet, and its reads.

    A read is told by the sheet of its source and by how many items further on its word stands.
    """
    strides = strides_of(box)
    sheets = sheets_of(flow, box, strides, outside)
    makers = []
    for rule, sheet in zip(flow[1], sheets):
        reads = [(sheets[source], -apart(strides, distance)) for source, distance in rule[1:]]
        makers.append((rule[0], sheet, reads))
    return (addresses_of(box, strides), makers)


def rounds_of(box, beats, addresses):
    """The ascending list of (beat, plane, addresses of the points at which the plane works at this beat)."""
    weights, starts = beats
    groups = {}
    for level, address in zip(products_of(box, weights), addresses):
        if level not in groups:
            groups[level] = []
        groups[level].append(address)
    return sorted([(level + start, plane, groups[level]) for plane, start in enumerate(starts) for level in groups])


def make_words(maker, addresses):
    """Make the words of a plane at these addresses, none of which reads another one of them."""
    kind, sheet, reads = maker
    one, first = reads[0]
    other, last = reads[-1]
    if kind == "copy":
        for at in addresses:
            sheet[at] = one[at + first]
    elif kind == "neg":
        for at in addresses:
            sheet[at] = -one[at + first] % MODULUS
    elif kind == "add":
        for at in addresses:
            sheet[at] = (one[at + first] + other[at + last]) % MODULUS
    elif kind == "sub":
        for at in addresses:
            sheet[at] = (one[at + first] - other[at + last]) % MODULUS
    elif kind == "mul":
        for at in addresses:
            sheet[at] = one[at + first] * other[at + last] % MODULUS
    elif kind == "least":
        for at in addresses:
            sheet[at] = min(one[at + first], other[at + last])
    elif kind == "most":
        for at in addresses:
            sheet[at] = max(one[at + first], other[at + last])
    else:
        middle, between = reads[1]
        for at in addresses:
            sheet[at] = (one[at + first] + middle[at + between] * other[at + last]) % MODULUS
