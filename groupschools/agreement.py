"""What two trees agree on."""

from groupschools.trees import empty_tree, held_specimens, set_group, sets_of


def kept_groups(one, other):
    """A dict of the groups of one that hold something which a group of the other holds too, no more and no less."""
    sets = sets_of(other)
    held = held_specimens(one)
    kept = {}
    for key in held:
        if tuple(held[key]) in sets:
            kept[key] = True
    return kept


def nearest_kept(tree, kept, group):
    """The group itself if it's kept, else the nearest kept one above it, or 0."""
    while group != 0 and group not in kept:
        group = tree.parents[group]
    return group


def agreed_tree(one, other):
    """The tree that the two trees agree on, with keys and ranks of the first."""
    kept = kept_groups(one, other)
    tree = empty_tree()
    for key in kept:
        set_group(tree, key, one.ranks[key], nearest_kept(one, kept, one.parents[key]))
    for x in sorted(one.homes):
        home = nearest_kept(one, kept, one.homes[x])
        if home != 0:
            tree.homes[x] = home
    return tree
