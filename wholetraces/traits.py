"""The traits of a tree as bits, so that those of many parts are joined by one sign."""

TRAITS = "bdklx"
BAD = 1
DROPPED = 2
KEPT = 4
LONE = 8
LOST = 16
# No trait of the tree: the part of the outermost call is kept, so for its caller it is one that was made directly.
NEAR = 32
# All that tells an outcome, but for its sign.
ALL_BITS = 63
# No trait either, and nothing that a caller gathers: the part of the outermost call is dropped.
HIDDEN = 64

# The letters of the traits that are so, ascending, by their bits.
TEXTS = (
    "", "b", "d", "bd", "k", "bk", "dk", "bdk", "l", "bl", "dl", "bdl", "kl", "bkl", "dkl", "bdkl",
    "x", "bx", "dx", "bdx", "kx", "bkx", "dkx", "bdkx", "lx", "blx", "dlx", "bdlx", "klx", "bklx", "dklx", "bdklx",
)


def own_bits(bad, kept):
    """What the part of a call itself adds, and which bit of what it gathered makes a part lone."""
    if kept:
        return (BAD if bad else 0) | KEPT | NEAR, 0
    return (BAD | LOST if bad else 0) | DROPPED | HIDDEN, NEAR


def with_own(gathered, own, near):
    """The bits of a whole call: what was gathered beneath it, and what its own part adds and makes lone."""
    return gathered & 31 | own | (gathered & near) >> 2


def outcome_of(sign, bits):
    """The outcome of a call with this sign and these bits."""
    return sign, bits & NEAR != 0, TEXTS[bits & 31]


def bits_of(kept, traits):
    """The bits of a call with these traits, whose part is kept or not."""
    return TEXTS.index(traits) | (NEAR if kept else 0)


def bits_that_meet(goal):
    """The bits of a whole call that are all there if, and only if, it meets a goal."""
    if goal == "torn":
        return DROPPED | KEPT
    if goal == "lone":
        return LONE
    return LOST if goal == "lost" else BAD | HIDDEN


def bits_that_matter(goal):
    """The bits of what is gathered that tell, with the end of a call, which of these it has."""
    if goal == "lone":
        return LONE | NEAR
    return bits_that_meet(goal) & ~HIDDEN


def bits_before(goal):
    """The bits that matter as long as no call beneath meets the goal by itself."""
    if goal == "lone":
        return NEAR
    return 0 if goal == "lost" else bits_that_matter(goal)
