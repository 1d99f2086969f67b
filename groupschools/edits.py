"""The edits of single groups and specimens.

Each changes the tree that it's given and answers DONE, or answers its refusal and changes nothing.
"""

from groupschools.bounds import (
    BAD_VALUE, DONE, FULL, MISFIT, MOST_GROUPS, MOST_SPECIMENS, NO_CHANGE, NOT_THERE, THERE_ALREADY,
    are_all_in, are_keys_once, is_key, is_parent, is_rank,
)
from groupschools.trees import drop_group, groups_in, hand_over, may_stand_in, set_group, specimens_in


def is_parent_missing(tree, parent):
    """Whether the parent is neither 0 nor there."""
    return parent != 0 and parent not in tree.ranks


def add_group(tree, key, rank, parent):
    """A new group."""
    if not is_key(key) or not is_rank(rank) or not is_parent(parent):
        return BAD_VALUE
    if key in tree.ranks:
        return THERE_ALREADY
    if is_parent_missing(tree, parent):
        return NOT_THERE
    if not may_stand_in(tree, rank, parent):
        return MISFIT
    if len(tree.ranks) >= MOST_GROUPS:
        return FULL
    set_group(tree, key, rank, parent)
    return DONE


def put_specimen(tree, x, group):
    """The group is the specimen's home, whether the specimen was there or not."""
    if not is_key(x) or not is_key(group):
        return BAD_VALUE
    if group not in tree.ranks:
        return NOT_THERE
    if tree.homes.get(x, 0) == group:
        return NO_CHANGE
    if x not in tree.homes and len(tree.homes) >= MOST_SPECIMENS:
        return FULL
    tree.homes[x] = group
    return DONE


def take_specimen(tree, x):
    """The specimen goes away."""
    if not is_key(x):
        return BAD_VALUE
    if x not in tree.homes:
        return NOT_THERE
    tree.homes.pop(x)
    return DONE


def move_group(tree, group, parent):
    """The group has this parent."""
    if not is_key(group) or not is_parent(parent):
        return BAD_VALUE
    if group not in tree.ranks or is_parent_missing(tree, parent):
        return NOT_THERE
    if not may_stand_in(tree, tree.ranks[group], parent):
        return MISFIT
    if tree.parents[group] == parent:
        return NO_CHANGE
    tree.parents[group] = parent
    return DONE


def lump_groups(tree, a, b):
    """All that is directly in b is in a, and b goes away."""
    if not is_key(a) or not is_key(b):
        return BAD_VALUE
    if a not in tree.ranks or b not in tree.ranks:
        return NOT_THERE
    if a == b:
        return NO_CHANGE
    if tree.ranks[a] != tree.ranks[b]:
        return MISFIT
    hand_over(tree, b, a)
    drop_group(tree, b)
    return DONE


def split_group(tree, a, key, groups, specimens):
    """A new group beside a gets some of what is directly in a."""
    if not is_key(a) or not is_key(key) or not are_keys_once(groups) or not are_keys_once(specimens):
        return BAD_VALUE
    if key in tree.ranks:
        return THERE_ALREADY
    if a not in tree.ranks:
        return NOT_THERE
    if not are_all_in(groups, groups_in(tree, a)) or not are_all_in(specimens, specimens_in(tree, a)):
        return NOT_THERE
    if len(groups) == 0 and len(specimens) == 0:
        return NO_CHANGE
    if len(tree.ranks) >= MOST_GROUPS:
        return FULL
    set_group(tree, key, tree.ranks[a], tree.parents[a])
    for group in groups:
        tree.parents[group] = key
    for x in specimens:
        tree.homes[x] = key
    return DONE


def may_have_rank(tree, group, rank):
    """Whether the rank fits between the group's parent and the groups in it."""
    if not may_stand_in(tree, rank, tree.parents[group]):
        return False
    for key in groups_in(tree, group):
        if tree.ranks[key] <= rank:
            return False
    return True


def change_rank(tree, group, rank):
    """The group has this rank."""
    if not is_key(group) or not is_rank(rank):
        return BAD_VALUE
    if group not in tree.ranks:
        return NOT_THERE
    if not may_have_rank(tree, group, rank):
        return MISFIT
    if tree.ranks[group] == rank:
        return NO_CHANGE
    tree.ranks[group] = rank
    return DONE


def dissolve_group(tree, group):
    """All that is directly in the group is in its parent, and the group goes away."""
    if not is_key(group):
        return BAD_VALUE
    if group not in tree.ranks:
        return NOT_THERE
    parent = tree.parents[group]
    if parent == 0 and len(specimens_in(tree, group)) > 0:
        return MISFIT
    hand_over(tree, group, parent)
    drop_group(tree, group)
    return DONE
