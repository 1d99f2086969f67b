"""The questions about one tree.

Each gives back the list of numbers that it answers, or of its refusal alone. What is no key isn't in any tree.
"""

from groupschools.bounds import BAD_VALUE, NOT_THERE, are_all_in, are_keys_once, is_family, is_rank
from groupschools.texts import write_tree
from groupschools.trees import groups_from, groups_of_rank, held_specimens, sets_of

# The family of each rank, from rank 1 on.
FAMILIES_OF_RANKS = (1, 1, 1, 1, 2, 2, 3, 3)


def tell_text(tree):
    """How many bytes the tree's text has, and they."""
    text = write_tree(tree)
    return [len(text)] + text


def list_held(tree, group):
    """How many specimens the group holds, and they, ascending."""
    if group not in tree.ranks:
        return [NOT_THERE]
    held = held_specimens(tree)[group]
    return [len(held)] + held


def holders_of(tree, x):
    """The groups that hold the specimen, from the top down."""
    return list(reversed(groups_from(tree, tree.homes[x])))


def list_path(tree, x):
    """How many groups hold the specimen, and from the top down each one's key and rank."""
    if x not in tree.homes:
        return [NOT_THERE]
    groups = holders_of(tree, x)
    answer = [len(groups)]
    for key in groups:
        answer.extend([key, tree.ranks[key]])
    return answer


def find_common(tree, specimens):
    """The lowest group that holds all the specimens, or 0."""
    if len(specimens) == 0 or not are_keys_once(specimens):
        return [BAD_VALUE]
    if not are_all_in(specimens, tree.homes):
        return [NOT_THERE]
    held = held_specimens(tree)
    for key in groups_from(tree, tree.homes[specimens[0]]):
        if are_all_in(specimens, held[key]):
            return [key]
    return [0]


def list_level(tree, rank):
    """How many groups have the rank, and for each its key, how many specimens it holds, and they."""
    if not is_rank(rank):
        return [BAD_VALUE]
    groups = sorted(groups_of_rank(tree, rank))
    held = held_specimens(tree)
    answer = [len(groups)]
    for key in groups:
        answer.extend([key, len(held[key])])
        answer.extend(held[key])
    return answer


def find_topmost(tree, family, x):
    """The highest group of the family of ranks that holds the specimen, or 0."""
    if not is_family(family):
        return [BAD_VALUE]
    if x not in tree.homes:
        return [NOT_THERE]
    for key in holders_of(tree, x):
        if FAMILIES_OF_RANKS[tree.ranks[key] - 1] == family:
            return [key]
    return [0]


def is_closer(tree, x, y, z):
    """1 if some group holds x and y without z, else 0."""
    if not are_keys_once([x, y, z]):
        return [BAD_VALUE]
    if not are_all_in([x, y, z], tree.homes):
        return [NOT_THERE]
    held = held_specimens(tree)
    for key in groups_from(tree, tree.homes[x]):
        if y in held[key] and z not in held[key]:
            return [1]
    return [0]


def count_all(tree):
    """How many groups, specimens, groups one above the other at most, and sets the tree has."""
    depth = max([len(groups_from(tree, key)) for key in tree.ranks], default=0)
    return [len(tree.ranks), len(tree.homes), depth, len(sets_of(tree))]
