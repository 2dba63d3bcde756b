"""The traits of a tree as bits, so that those of many parts are joined by one sign."""

TRAITS = "bdklx"
BAD = 1
DROPPED = 2
KEPT = 4
LONE = 8
LOST = 16
# No trait of the tree: a part that was kept was made by the call directly.
NEAR = 32


def traits_text(bits):
    """The letters of the traits that are so, ascending."""
    return "".join([letter for at, letter in enumerate(TRAITS) if bits >> at & 1])


def traits_bits(text):
    """The bits of the traits with these letters."""
    return sum([1 << at for at, letter in enumerate(TRAITS) if letter in text])


def with_own(gathered, bad, kept):
    """The bits of a whole call: what was gathered beneath it, and what its own part adds."""
    bits = gathered & (NEAR - 1)
    if bad:
        bits |= BAD
    if kept:
        return bits | KEPT
    if gathered & NEAR:
        bits |= LONE
    if bad:
        bits |= LOST
    return bits | DROPPED


def for_caller(bits, kept):
    """What the caller of a call with these bits gathers of it."""
    return bits | NEAR if kept else bits
