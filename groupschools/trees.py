"""Trees of groups and specimens."""

from groupschools.bounds import DONE, MOST_GROUPS, MOST_SPECIMENS, NO_CHANGE


class Tree:
    """Each group's rank and parent, and each specimen's home."""

    def __init__(self, ranks, parents, homes):
        self.ranks = ranks
        self.parents = parents
        self.homes = homes


def empty_tree():
    """A tree with no group and no specimen."""
    return Tree({}, {}, {})


def copy_tree(tree):
    """A tree that is the same and can be changed on its own."""
    return Tree(dict(tree.ranks), dict(tree.parents), dict(tree.homes))


def are_same(one, other):
    """Whether the two trees are the same."""
    return one.ranks == other.ranks and one.parents == other.parents and one.homes == other.homes


def replace_tree(tree, other):
    """Makes the tree the other one; refused where it is that already."""
    if are_same(tree, other):
        return NO_CHANGE
    tree.ranks = dict(other.ranks)
    tree.parents = dict(other.parents)
    tree.homes = dict(other.homes)
    return DONE


def set_group(tree, key, rank, parent):
    """The group is there with this rank and parent."""
    tree.ranks[key] = rank
    tree.parents[key] = parent


def drop_group(tree, key):
    """The group goes away, and nothing else with it."""
    tree.ranks.pop(key)
    tree.parents.pop(key)


def groups_in(tree, parent):
    """The groups that have this parent."""
    return [key for key in tree.parents if tree.parents[key] == parent]


def groups_of_rank(tree, rank):
    """The groups that have this rank."""
    return [key for key in tree.ranks if tree.ranks[key] == rank]


def specimens_in(tree, home):
    """The specimens that have this home."""
    return [x for x in tree.homes if tree.homes[x] == home]


def hand_over(tree, old, new):
    """What is directly in the old group is directly in the new one from now on."""
    for key in groups_in(tree, old):
        tree.parents[key] = new
    for x in specimens_in(tree, old):
        tree.homes[x] = new


def may_stand_in(tree, rank, parent):
    """Whether a group of this rank may have this parent, which is 0 or there."""
    return parent == 0 or tree.ranks[parent] < rank


def are_ranks_right(tree):
    """Whether each group may have its parent; all parents are there."""
    for key in tree.ranks:
        if not may_stand_in(tree, tree.ranks[key], tree.parents[key]):
            return False
    return True


def is_too_big(tree):
    """Whether there are more groups or specimens than a tree may have."""
    return len(tree.ranks) > MOST_GROUPS or len(tree.homes) > MOST_SPECIMENS


def groups_from(tree, group):
    """The group and all that are above it, the nearest first."""
    chain = []
    while group != 0:
        chain.append(group)
        group = tree.parents[group]
    return chain


def held_specimens(tree):
    """For each group the specimens that it holds, ascending."""
    held = {}
    for key in tree.ranks:
        held[key] = []
    for x in sorted(tree.homes):
        for key in groups_from(tree, tree.homes[x]):
            held[key].append(x)
    return held


def sets_of(tree):
    """A dict of the tree's sets: what some group holds, ascending and not empty, each once."""
    sets = {}
    held = held_specimens(tree)
    for key in held:
        if len(held[key]) > 0:
            sets[tuple(held[key])] = True
    return sets
