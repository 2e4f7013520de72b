"""Two square tables told alike, with a turn between them, or apart, with a polynomial that parts them."""

from turnframe.errors import NoFit
from turnframe.frames import frame_by
from turnframe.polys import common_part, divided
from turnframe.splits import chain_of, heads
from turnframe.tables import times_table


def rank_at(kind, chain, g):
    """The rank of g's value at a table with this chain: each block loses what its polynomial has in common with g."""
    return sum([len(f) - len(common_part(kind, f, g)) for f in chain])


def parting(kind, ours, theirs):
    """A polynomial whose ranks differ at tables with these two chains, which are unlike.

    At the first place where the chains differ, the polynomial of one chain takes from its own table all that is left
    there, and from the other table less, unless the other chain's polynomial divides it.
    """
    place = 0
    while ours[place] == theirs[place]:
        place += 1
    if len(divided(kind, ours[place], theirs[place])[1]) > 0:
        return ours[place]
    return theirs[place]


def heads_of_both(kind, A, B):
    if len(A) != len(B):
        raise NoFit("only tables of as many rows are told alike or apart")
    return (heads(kind, A), heads(kind, B))


def are_alike(kind, A, B):
    both = heads_of_both(kind, A, B)
    return chain_of(both[0]) == chain_of(both[1])


def alike(kind, A, B):
    both = heads_of_both(kind, A, B)
    ours = chain_of(both[0])
    theirs = chain_of(both[1])
    if ours != theirs:
        g = parting(kind, ours, theirs)
        return ("apart", g, rank_at(kind, ours, g), rank_at(kind, theirs, g))
    here = frame_by(kind, A, both[0])
    there = frame_by(kind, B, both[1])
    return ("alike", times_table(kind, here[1], there[2]), times_table(kind, there[1], here[2]))
