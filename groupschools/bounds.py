"""The kinds of values with their bounds, and the numbers of the refusals."""

DONE = 0
BAD_VALUE = -1
THERE_ALREADY = -2
SPECIMEN_TWICE = -3
NOT_THERE = -4
MISFIT = -5
NO_CHANGE = -6
NO_VERSION = -7
NOTHING_EARLIER = -8
FULL = -9

MOST_KEY = 1000000000
MOST_RANK = 8
MOST_FAMILY = 3
MOST_DAY = 1000000
MOST_SCHOOL = 3
MOST_GROUPS = 32
MOST_SPECIMENS = 64
MOST_EARLIER = 12
MOST_VERSIONS = 16
MOST_BYTES = 2000
MOST_BRACES = 7

# The day that tells a school's draft in the place of a version.
DRAFT_DAY = -1


def is_key(number):
    """Whether the number is a key."""
    return 1 <= number <= MOST_KEY


def is_parent(number):
    """Whether the number is a key, or the 0 of a group on top."""
    return number == 0 or is_key(number)


def is_rank(number):
    """Whether the number is a rank."""
    return 1 <= number <= MOST_RANK


def is_family(number):
    """Whether the number is that of a family of ranks."""
    return 1 <= number <= MOST_FAMILY


def is_day(number):
    """Whether the number is a day."""
    return 0 <= number <= MOST_DAY


def is_school(number):
    """Whether the number is a school."""
    return 1 <= number <= MOST_SCHOOL


def has_twice(numbers):
    """Whether some number stands in the list more than once."""
    return len(set(numbers)) != len(numbers)


def are_keys_once(numbers):
    """Whether the list holds keys alone, none of them twice."""
    for number in numbers:
        if not is_key(number):
            return False
    return not has_twice(numbers)


def are_all_in(numbers, there):
    """Whether each of the numbers is in the list, or among the keys of the dict, that's given second."""
    for number in numbers:
        if number not in there:
            return False
    return True
