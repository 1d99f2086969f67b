"""Texts in form, and the trees that they tell."""

from groupschools.bounds import (
    BAD_VALUE, DONE, FULL, MISFIT, MOST_BRACES, MOST_BYTES, MOST_KEY, MOST_RANK, SPECIMEN_TWICE, THERE_ALREADY,
    has_twice,
)
from groupschools.trees import are_ranks_right, empty_tree, is_too_big, replace_tree, set_group

BLANK = 32
COMMA = 44
DIGIT_ZERO = 48
DIGIT_NINE = 57
COLON = 58
LEFT_BRACKET = 91
RIGHT_BRACKET = 93
LEFT_BRACE = 123
RIGHT_BRACE = 125


class Found:
    """What a text tells, in its order: a key may stand here twice."""

    def __init__(self):
        self.groups = []
        self.specimens = []


class Reader:
    """A text and the place in it that has been reached."""

    def __init__(self, text):
        self.text = text
        self.place = 0

    def is_at_end(self):
        """Whether the whole text has been read."""
        return self.place == len(self.text)

    def passes(self, byte):
        """Whether this byte stands here; if so, it is read."""
        if self.is_at_end() or self.text[self.place] != byte:
            return False
        self.place += 1
        return True

    def is_at_digit(self):
        """Whether a digit stands here."""
        return not self.is_at_end() and DIGIT_ZERO <= self.text[self.place] <= DIGIT_NINE

    def read_number(self, most):
        """The number that stands here; 0 if none from 1 to most does, or one with a 0 ahead."""
        number = 0
        while self.is_at_digit():
            number = number * 10 + self.text[self.place] - DIGIT_ZERO
            self.place += 1
            # Only a 0 ahead leaves 0 here, and a number too great stays so.
            if number == 0 or number > most:
                return 0
        return number


def read_specimens(reader, home, found):
    """Reads specimens up to their closing bracket; whether they are in form."""
    while True:
        x = reader.read_number(MOST_KEY)
        if x == 0:
            return False
        found.specimens.append((x, home))
        if reader.passes(RIGHT_BRACKET):
            return True
        if not reader.passes(BLANK):
            return False


def read_group(reader, parent, found):
    """Reads a group up to its braces; its key, or 0 if it is not in form."""
    rank = reader.read_number(MOST_RANK)
    if rank == 0 or not reader.passes(COLON):
        return 0
    key = reader.read_number(MOST_KEY)
    if key == 0:
        return 0
    found.groups.append((key, rank, parent))
    if reader.passes(LEFT_BRACKET) and not read_specimens(reader, key, found):
        return 0
    return key


def read_groups(reader, found):
    """Reads groups up to the text's end; whether they are in form."""
    parents = [0]
    while True:
        key = read_group(reader, parents[-1], found)
        if key == 0:
            return False
        if reader.passes(LEFT_BRACE):
            # The 0 of the groups on top stands in no brace.
            if len(parents) - 1 == MOST_BRACES:
                return False
            parents.append(key)
        else:
            while len(parents) > 1 and reader.passes(RIGHT_BRACE):
                parents.pop()
            if not reader.passes(COMMA):
                return len(parents) == 1 and reader.is_at_end()


def is_in_form(text, found):
    """Whether the text is in form; what it tells is added to found."""
    if len(text) == 0:
        return True
    if len(text) > MOST_BYTES:
        return False
    return read_groups(Reader(text), found)


def read_tree(text, tree):
    """Makes the empty tree the text's one; the refusal if there is no such tree."""
    found = Found()
    if not is_in_form(text, found):
        return BAD_VALUE
    if has_twice([told[0] for told in found.groups]):
        return THERE_ALREADY
    if has_twice([told[0] for told in found.specimens]):
        return SPECIMEN_TWICE
    for told in found.groups:
        set_group(tree, told[0], told[1], told[2])
    for told in found.specimens:
        tree.homes[told[0]] = told[1]
    if not are_ranks_right(tree):
        return MISFIT
    if is_too_big(tree):
        return FULL
    return DONE


def load_text(tree, text):
    """The tree becomes the text's one."""
    other = empty_tree()
    refusal = read_tree(text, other)
    if refusal != DONE:
        return refusal
    return replace_tree(tree, other)


def check_text(text):
    """How many groups and specimens the text's tree has, or the refusal."""
    tree = empty_tree()
    refusal = read_tree(text, tree)
    if refusal != DONE:
        return [refusal]
    return [len(tree.ranks), len(tree.homes)]
