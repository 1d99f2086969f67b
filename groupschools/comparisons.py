"""The questions about two trees, each of which gives back the list of numbers that it answers."""

from groupschools.changes import DROP_GROUP, DROP_SPECIMEN, SET_GROUP, SET_SPECIMEN
from groupschools.trees import held_specimens, sets_of


def has_group(tree, key, rank, parent):
    """Whether the group is in the tree with this rank and parent."""
    return key in tree.ranks and tree.ranks[key] == rank and tree.parents[key] == parent


def changes_of_groups(one, other):
    """The changes that make the other tree's groups of the first one's."""
    rows = []
    for key in sorted(other.ranks):
        if not has_group(one, key, other.ranks[key], other.parents[key]):
            rows.append([SET_GROUP, key, other.ranks[key], other.parents[key]])
    for key in sorted(one.ranks):
        if key not in other.ranks:
            rows.append([DROP_GROUP, key, 0, 0])
    return rows


def changes_of_specimens(one, other):
    """The changes that make the other tree's specimens of the first one's."""
    rows = []
    for x in sorted(other.homes):
        if x not in one.homes or one.homes[x] != other.homes[x]:
            rows.append([SET_SPECIMEN, x, other.homes[x], 0])
    for x in sorted(one.homes):
        if x not in other.homes:
            rows.append([DROP_SPECIMEN, x, 0, 0])
    return rows


def list_changes(one, other):
    """How many changes make the other tree of the first one, and they."""
    rows = changes_of_groups(one, other) + changes_of_specimens(one, other)
    answer = [len(rows)]
    for row in rows:
        answer.extend(row)
    return answer


def do_clash(one, other):
    """Whether the two lists have some specimen in common, and each has one that the other hasn't."""
    shared = len(set(one) & set(other))
    return 0 < shared < len(one) and shared < len(other)


def list_clashes(one, other):
    """How many pairs of a group of each tree overlap with neither within the other, and they."""
    ones = held_specimens(one)
    others = held_specimens(other)
    count = 0
    pairs = []
    for a in sorted(ones):
        for b in sorted(others):
            if do_clash(ones[a], others[b]):
                count += 1
                pairs.extend([a, b])
    return [count] + pairs


def count_missing(sets, others):
    """How many of the sets aren't among the others."""
    return len([told for told in sets if told not in others])


def count_apart(one, other):
    """How many sets of each tree aren't sets of the other."""
    ones = sets_of(one)
    others = sets_of(other)
    return [count_missing(ones, others), count_missing(others, ones)]
