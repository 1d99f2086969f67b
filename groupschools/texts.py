"""The text of a tree."""

from groupschools.bounds import MOST_RANK
from groupschools.trees import groups_in, groups_of_rank, specimens_in


def join_groups(keys, texts):
    """The texts of the groups, in ascending order of their keys."""
    return ",".join([texts[key] for key in sorted(keys)])


def write_group(tree, key, texts):
    """The text of the group; texts has those of the groups in it."""
    text = str(tree.ranks[key]) + ":" + str(key)
    specimens = specimens_in(tree, key)
    if len(specimens) > 0:
        text += "[" + " ".join([str(x) for x in sorted(specimens)]) + "]"
    groups = groups_in(tree, key)
    if len(groups) > 0:
        text += "{" + join_groups(groups, texts) + "}"
    return text


def write_tree(tree):
    """The bytes of the tree's text."""
    texts = {}
    # Groups in a group have greater rank numbers, so from the greatest on their texts are there when it needs them.
    for rank in range(MOST_RANK, 0, -1):
        for key in groups_of_rank(tree, rank):
            texts[key] = write_group(tree, key, texts)
    return [ord(sign) for sign in join_groups(groups_in(tree, 0), texts)]
