"""The edges of cones, in whole numbers alone."""

from math import gcd


def edges_of(many, bounds):
    """The edges of the cone of all amounts of so many things, none below nought, that keep to the bounds.

    A bound has an integer for each thing; amounts keep to it if the sum of integers times amounts is not
    below nought. Each edge is a tuple of numbers without a common divisor.
    """
    # With each edge goes a mark, whose bits tell which limits it touches: what is nought, then the bounds.
    bits = [1]
    for _ in range(many + len(bounds)):
        bits.append(2 * bits[-1])
    full = sum(bits[:many])
    edges = [
        (tuple([1 if at == thing else 0 for at in range(many)]), full - bits[thing]) for thing in range(many)]
    for bound, bit in zip(bounds, bits[many:]):
        edges = kept_edges(edges, bound, bit, many - 2)
    return [edge for edge, mark in edges]


def kept_edges(edges, bound, bit, least):
    """The edges of the part of the cone that keeps to the bound, too; those that touch it get its bit.

    Where an edge that does not keep to it stands beside one that does, a new edge lies between them.
    """
    kept = []
    inside = []
    outside = []
    for edge, mark in edges:
        side = sum([amount * number for amount, number in zip(edge, bound)])
        if side < 0:
            outside.append((edge, mark, side))
        elif side > 0:
            inside.append((edge, mark, side))
            kept.append((edge, mark))
        else:
            kept.append((edge, mark | bit))
    marks = [mark for edge, mark in edges]
    for edge, mark, side in inside:
        for other, its, away in outside:
            if are_beside(mark & its, marks, least):
                kept.append((between(edge, side, other, -away), (mark & its) | bit))
    return kept


def are_beside(common, marks, least):
    """Whether just two edges, with as many limits in common as two edges of one face, touch all these limits."""
    bits = f"{common:b}"
    if bits.count("1") < least:
        return False
    return [mark & common for mark in marks].count(common) == 2


def between(edge, side, other, away):
    """The point of the bound between two edges, so far on either side of it, without a common divisor."""
    amounts = [away * mine + side * its for mine, its in zip(edge, other)]
    divisor = 0
    for amount in amounts:
        divisor = gcd(divisor, amount)
    return tuple([amount // divisor for amount in amounts])
