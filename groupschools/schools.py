"""The calls on a new house, and their answers."""

from groupschools.bounds import BAD_VALUE, DONE, is_school
from groupschools.changes import apply_rows
from groupschools.comparisons import count_apart, list_changes, list_clashes
from groupschools.edits import (
    add_group, change_rank, dissolve_group, lump_groups, move_group, put_specimen, split_group, take_specimen,
)
from groupschools.forms import check_text, load_text
from groupschools.houses import (
    House, agree_trees, fetch_tree, list_versions, publish_draft, renew_draft, told_refusal, told_refusal_of_two,
    told_tree, undo_edit,
)
from groupschools.questions import (
    count_all, find_common, find_topmost, is_closer, list_held, list_level, list_path, tell_text,
)
from groupschools.trees import copy_tree

GROUP = 0
PUT = 1
TAKE = 2
MOVE = 3
LUMP = 4
SPLIT = 5
RANK = 6
DISSOLVE = 7
LOAD = 8
FETCH = 9
APPLY = 10
AGREE = 11
UNDO = 12
PUBLISH = 13
TEXT = 14
HOLDS = 15
PATH = 16
COMMON = 17
LEVEL = 18
TOPMOST = 19
DIFF = 20
CLASHES = 21
DISTANCE = 22
CLOSER = 23
VERSIONS = 24
COUNTS = 25
CHECK = 26

# For each call, in the order of their numbers: how many whole numbers it has, and how many rows behind them.
NUMBERS_OF_CALLS = (4, 3, 2, 3, 3, 3, 3, 2, 1, 3, 1, 5, 1, 2, 2, 3, 3, 2, 3, 4, 4, 4, 4, 5, 1, 2, 0)
ROWS_OF_CALLS = (0, 0, 0, 0, 0, 2, 0, 0, 1, 0, 1, 0, 0, 0, 0, 0, 0, 1, 0, 0, 0, 0, 0, 0, 0, 0, 1)


class Tape:
    """The list of the calls and the place in it that has been reached."""

    def __init__(self, calls):
        self.calls = calls
        self.reached = 0

    def is_read(self):
        """Whether all calls have been read."""
        return self.reached == len(self.calls)

    def next_number(self):
        """The number that stands here."""
        number = self.calls[self.reached]
        self.reached += 1
        return number

    def next_numbers(self, count):
        """So many numbers from here on."""
        start = self.reached
        self.reached += count
        return self.calls[start:self.reached]


def edit_refusal(house, tree, call, numbers, rows):
    """Does the edit to the tree; its refusal or DONE."""
    if call == GROUP:
        return add_group(tree, numbers[1], numbers[2], numbers[3])
    if call == PUT:
        return put_specimen(tree, numbers[1], numbers[2])
    if call == TAKE:
        return take_specimen(tree, numbers[1])
    if call == MOVE:
        return move_group(tree, numbers[1], numbers[2])
    if call == LUMP:
        return lump_groups(tree, numbers[1], numbers[2])
    if call == SPLIT:
        return split_group(tree, numbers[1], numbers[2], rows[0], rows[1])
    if call == RANK:
        return change_rank(tree, numbers[1], numbers[2])
    if call == DISSOLVE:
        return dissolve_group(tree, numbers[1])
    if call == LOAD:
        return load_text(tree, rows[0])
    if call == FETCH:
        return fetch_tree(house, tree, numbers[1], numbers[2])
    if call == APPLY:
        return apply_rows(tree, rows[0])
    return agree_trees(house, tree, numbers[1:])


def edit_draft(house, call, numbers, rows):
    """Makes the school's new draft; the refusal or DONE."""
    if not is_school(numbers[0]):
        return BAD_VALUE
    school = house.schools[numbers[0]]
    tree = copy_tree(school.draft)
    refusal = edit_refusal(house, tree, call, numbers, rows)
    if refusal == DONE:
        renew_draft(school, tree)
    return refusal


def ask_tree(tree, call, numbers, rows):
    """What the question of one tree answers; numbers are those behind the school and the day."""
    if call == TEXT:
        return tell_text(tree)
    if call == HOLDS:
        return list_held(tree, numbers[0])
    if call == PATH:
        return list_path(tree, numbers[0])
    if call == COMMON:
        return find_common(tree, rows[0])
    if call == LEVEL:
        return list_level(tree, numbers[0])
    if call == TOPMOST:
        return find_topmost(tree, numbers[0], numbers[1])
    if call == CLOSER:
        return is_closer(tree, numbers[0], numbers[1], numbers[2])
    return count_all(tree)


def ask_told(house, call, numbers, rows):
    """What the question of one told tree answers."""
    refusal = told_refusal(house, numbers[0], numbers[1])
    if refusal != DONE:
        return [refusal]
    return ask_tree(told_tree(house, numbers[0], numbers[1]), call, numbers[2:], rows)


def ask_told_two(house, call, numbers):
    """What the question of two told trees answers."""
    refusal = told_refusal_of_two(house, numbers)
    if refusal != DONE:
        return [refusal]
    one = told_tree(house, numbers[0], numbers[1])
    other = told_tree(house, numbers[2], numbers[3])
    if call == DIFF:
        return list_changes(one, other)
    if call == CLASHES:
        return list_clashes(one, other)
    return count_apart(one, other)


def answer_question(house, call, numbers, rows):
    """The numbers that the question answers."""
    if call == VERSIONS:
        return list_versions(house, numbers[0])
    if call == CHECK:
        return check_text(rows[0])
    if call == DIFF or call == CLASHES or call == DISTANCE:
        return ask_told_two(house, call, numbers)
    return ask_told(house, call, numbers, rows)


def answer_call(house, call, numbers, rows):
    """The numbers that the call answers."""
    if call < UNDO:
        return [edit_draft(house, call, numbers, rows)]
    if call == UNDO:
        return [undo_edit(house, numbers[0])]
    if call == PUBLISH:
        return [publish_draft(house, numbers[0], numbers[1])]
    return answer_question(house, call, numbers, rows)


def answer_next(house, tape):
    """Reads the next call and gives back what it answers."""
    call = tape.next_number()
    numbers = tape.next_numbers(NUMBERS_OF_CALLS[call])
    rows = []
    while len(rows) < ROWS_OF_CALLS[call]:
        rows.append(tape.next_numbers(tape.next_number()))
    return answer_call(house, call, numbers, rows)


def answers(calls):
    """For each call on a new house: how many numbers it answers, and these."""
    house = House()
    tape = Tape(calls)
    given = []
    while not tape.is_read():
        answer = answer_next(house, tape)
        given.append(len(answer))
        given.extend(answer)
    return given
