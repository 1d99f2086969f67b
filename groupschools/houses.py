"""A house of three schools, with their drafts and versions."""

from groupschools.agreement import agreed_tree
from groupschools.bounds import (
    BAD_VALUE, DONE, DRAFT_DAY, FULL, MOST_EARLIER, MOST_VERSIONS, NO_VERSION, NOTHING_EARLIER, THERE_ALREADY,
    is_day, is_school,
)
from groupschools.trees import empty_tree, replace_tree

NO_DAY = -1


class School:
    """A draft, the earlier drafts with the newest last, and the versions by their days.

    The trees kept here are never changed: an edit makes a tree of its own, so drafts and versions may share one.
    """

    def __init__(self):
        self.draft = empty_tree()
        self.earlier = []
        self.versions = {}


class House:
    """The three schools, new."""

    def __init__(self):
        self.schools = {1: School(), 2: School(), 3: School()}


def renew_draft(school, tree):
    """The tree is the draft, and the old draft is the newest earlier one."""
    school.earlier.append(school.draft)
    if len(school.earlier) > MOST_EARLIER:
        school.earlier.pop(0)
    school.draft = tree


def latest_day(school, day):
    """The latest day of a version that is this day or earlier; NO_DAY if there's none."""
    return max([told for told in school.versions if told <= day], default=NO_DAY)


def told_refusal(house, number, day):
    """The refusal of a tree that is told by a school's number and a day, or DONE."""
    if not is_school(number) or not (day == DRAFT_DAY or is_day(day)):
        return BAD_VALUE
    if day != DRAFT_DAY and latest_day(house.schools[number], day) == NO_DAY:
        return NO_VERSION
    return DONE


def told_tree(house, number, day):
    """The tree that is told by a school's number and a day, which are not refused."""
    school = house.schools[number]
    if day == DRAFT_DAY:
        return school.draft
    return school.versions[latest_day(school, day)]


def told_refusal_of_two(house, told):
    """The refusal of two trees, or DONE; told is the first one's school and day, then the second's."""
    refusal = told_refusal(house, told[0], told[1])
    if refusal != DONE:
        return refusal
    return told_refusal(house, told[2], told[3])


def fetch_tree(house, tree, other, day):
    """The tree becomes the one that is told."""
    refusal = told_refusal(house, other, day)
    if refusal != DONE:
        return refusal
    return replace_tree(tree, told_tree(house, other, day))


def agree_trees(house, tree, told):
    """The tree becomes what two told trees agree on; told is the first one's school and day, then the second's."""
    refusal = told_refusal_of_two(house, told)
    if refusal != DONE:
        return refusal
    return replace_tree(tree, agreed_tree(told_tree(house, told[0], told[1]), told_tree(house, told[2], told[3])))


def undo_edit(house, number):
    """The newest earlier draft of the school is its draft again."""
    if not is_school(number):
        return BAD_VALUE
    school = house.schools[number]
    if len(school.earlier) == 0:
        return NOTHING_EARLIER
    school.draft = school.earlier.pop()
    return DONE


def count_versions(house):
    """How many versions all schools together have."""
    return sum([len(house.schools[number].versions) for number in house.schools])


def publish_draft(house, number, day):
    """The draft is the school's version of the day."""
    if not is_school(number) or not is_day(day):
        return BAD_VALUE
    school = house.schools[number]
    if day in school.versions:
        return THERE_ALREADY
    if count_versions(house) >= MOST_VERSIONS:
        return FULL
    school.versions[day] = school.draft
    return DONE


def list_versions(house, number):
    """How many versions the school has, and their days, or the refusal."""
    if not is_school(number):
        return [BAD_VALUE]
    days = sorted(house.schools[number].versions)
    return [len(days)] + days
