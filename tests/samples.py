"""Trees to ask about, each as the text that the document tells for it."""

EMPTY = ""

# Only 5 holds something.
HOLLOW = "1:1,2:2{5:3,4:9{8:4}},1:5[6]"

TOPS = "1:2[1 9]{7:4[3]},8:7[2 4],3:10[5]"

# Eight groups, one within another, with keys that go down where ranks go up.
DEEP = "1:8[11]{2:7[12]{3:6[13]{4:5[14]{5:4[15]{6:3[16]{7:2[17]{8:1[18]}}}}}}}"

# The full tree: four towers of eight groups each, one within another, every group the home of two specimens.
TOWERS = (1, 2, 3, 4)
FLOORS = (1, 2, 3, 4, 5, 6, 7, 8)


def full_key(tower, rank):
    return 10 * tower + rank


def full_homed(tower, rank):
    """The specimens whose home is the group of this tower and rank."""
    return [100 * tower + 10 * rank, 100 * tower + 10 * rank + 5]


def full_held(tower, rank):
    """The specimens that the group of this tower and rank holds."""
    return [x for below in FLOORS[rank - 1:] for x in full_homed(tower, below)]


def full_tower(tower):
    parts = ["%d:%d[%d %d]" % (rank, full_key(tower, rank), *full_homed(tower, rank)) for rank in FLOORS]
    return "{".join(parts) + "}" * 7


FULL = ",".join(full_tower(tower) for tower in TOWERS)
