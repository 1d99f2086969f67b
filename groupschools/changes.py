"""Changes that are done to a tree all at once."""

from groupschools.bounds import BAD_VALUE, FULL, MISFIT, NOT_THERE, has_twice, is_key, is_parent, is_rank
from groupschools.trees import are_ranks_right, copy_tree, drop_group, is_too_big, replace_tree, set_group

SET_GROUP = 1
DROP_GROUP = 2
SET_SPECIMEN = 3
DROP_SPECIMEN = 4
ROW_LENGTH = 4


def cut_rows(numbers):
    """The changes, each a list; the last one is shorter where numbers are missing."""
    return [numbers[start:start + ROW_LENGTH] for start in range(0, len(numbers), ROW_LENGTH)]


def is_change(row):
    """Whether the row is a change of one of the four kinds."""
    if len(row) != ROW_LENGTH or not is_key(row[1]):
        return False
    if row[0] == SET_GROUP:
        return is_rank(row[2]) and is_parent(row[3])
    if row[0] == SET_SPECIMEN:
        return is_key(row[2]) and row[3] == 0
    return (row[0] == DROP_GROUP or row[0] == DROP_SPECIMEN) and row[2] == 0 and row[3] == 0


def is_of_group(row):
    """Whether the change is of a group, not of a specimen."""
    return row[0] == SET_GROUP or row[0] == DROP_GROUP


def are_changes(rows):
    """Whether all rows are changes, each of another group or specimen."""
    for row in rows:
        if not is_change(row):
            return False
    if has_twice([row[1] for row in rows if is_of_group(row)]):
        return False
    return not has_twice([row[1] for row in rows if not is_of_group(row)])


def are_dropped_there(tree, rows):
    """Whether all that is to go away is in the tree."""
    for row in rows:
        if row[0] == DROP_GROUP and row[1] not in tree.ranks:
            return False
        if row[0] == DROP_SPECIMEN and row[1] not in tree.homes:
            return False
    return True


def do_change(tree, row):
    """Does one change, whatever tree comes out."""
    if row[0] == SET_GROUP:
        set_group(tree, row[1], row[2], row[3])
    elif row[0] == DROP_GROUP:
        drop_group(tree, row[1])
    elif row[0] == SET_SPECIMEN:
        tree.homes[row[1]] = row[2]
    else:
        tree.homes.pop(row[1])


def are_all_groups_there(tree):
    """Whether each parent that is not 0 and each home is a group of the tree."""
    for key in tree.parents:
        if tree.parents[key] != 0 and tree.parents[key] not in tree.ranks:
            return False
    for x in tree.homes:
        if tree.homes[x] not in tree.ranks:
            return False
    return True


def apply_rows(tree, numbers):
    """The tree becomes what comes out of all the changes together."""
    rows = cut_rows(numbers)
    if not are_changes(rows):
        return BAD_VALUE
    if not are_dropped_there(tree, rows):
        return NOT_THERE
    other = copy_tree(tree)
    for row in rows:
        do_change(other, row)
    if not are_all_groups_there(other):
        return NOT_THERE
    if not are_ranks_right(other):
        return MISFIT
    if is_too_big(other):
        return FULL
    return replace_tree(tree, other)
