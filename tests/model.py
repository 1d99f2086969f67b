"""The document's words in another form, slow and plain, to compare the program with.

A tree is a pair: a frozenset of (key, rank, parent) and a frozenset of (specimen, home). An edit is written as what
comes out, and its refusals as a list in the document's order, of which the first that holds is answered; a question
as its refusals and a function of the trees told. An answer is a list, or one number plainly.
"""

import functools
import re

KEY = "([1-9][0-9]{0,8}|1000000000)"
HEAD = re.compile("([1-8]):" + KEY + r"(?![0-9])(?:\[(" + KEY + "(?: " + KEY + r")*)\])?")
EMPTY = (frozenset(), frozenset())


def is_key(number):
    return number in range(1, 10 ** 9 + 1)


def first(refusals):
    """The first refusal whose condition holds; conditions are functions, as later ones may make no sense alone."""
    for number, condition in refusals:
        if condition():
            return number
    return 0


def parse_forest(text, depth):
    """Groups and specimens of the whole text, which stands in so many braces; None if it isn't in form."""
    groups, specimens = [], []
    while True:
        head = HEAD.match(text)
        if head is None:
            return None
        key = int(head.group(2))
        inner = [[], []]
        specimens += [(int(x), key) for x in (head.group(3) or "").split()]
        text = text[head.end():]
        if text.startswith("{"):
            level, end = 0, None
            for place, sign in enumerate(text):
                level += {"{": 1, "}": -1}.get(sign, 0)
                if level == 0:
                    end = place
                    break
            inner = parse_forest(text[1:end], depth + 1) if end is not None and depth < 7 else None
            if inner is None:
                return None
            text = text[end + 1:]
        groups += [(key, int(head.group(1)), 0)] + [(k, r, p or key) for k, r, p in inner[0]]
        specimens += inner[1]
        if text == "":
            return groups, specimens
        if not text.startswith(","):
            return None
        text = text[1:]


def parse(text):
    if text == "":
        return [], []
    return parse_forest(text, 0) if len(text) <= 2000 else None


def text_of(tree, parent=0):
    """The text of the groups that have this parent."""
    parts = []
    for key, rank, above in sorted(told for told in tree[0] if told[2] == parent):
        inside = " ".join(str(x) for x, home in sorted(told for told in tree[1] if told[1] == key))
        below = text_of(tree, key)
        parts.append("%d:%d" % (rank, key) + ("[%s]" % inside if inside else "") + ("{%s}" % below if below else ""))
    return ",".join(parts)


@functools.lru_cache(maxsize=2000)
def chain(tree, key):
    """The group and all above it, the nearest first."""
    parents = {k: p for k, _, p in tree[0]}
    return [] if key == 0 else [key] + chain(tree, parents[key])


@functools.lru_cache(maxsize=2000)
def held(tree, key):
    return frozenset(x for x, home in tree[1] if key in chain(tree, home))


def sets(tree):
    return {held(tree, told[0]) for told in tree[0]} - {frozenset()}


def holders(tree, x):
    """The groups that hold the specimen as (rank, key), the highest first."""
    return sorted((rank, key) for key, rank, _ in tree[0] if x in held(tree, key))


def counted(rows):
    """How many rows there are, and their numbers."""
    return [len(rows)] + [number for row in rows for number in row]


def misranked(groups):
    ranks = {k: r for k, r, _ in groups}
    return any(p != 0 and ranks[p] >= r for _, r, p in groups)


class Model:
    def __init__(self):
        self.history = {1: [EMPTY], 2: [EMPTY], 3: [EMPTY]}
        self.published = {}

    def answer(self, name, *told):
        """The list of numbers that the call answers."""
        answer = getattr(self, "do_" + name)(*told)
        return answer if isinstance(answer, list) else [answer]

    def draft(self, school):
        return self.history[school][-1]

    def told_refusals(self, school, day):
        return [
            (-1, lambda: school not in (1, 2, 3) or day not in range(-1, 10 ** 6 + 1)),
            (-7, lambda: day != -1 and not [d for s, d in self.published if s == school and d <= day]),
        ]

    def tree(self, school, day):
        if day == -1:
            return self.draft(school)
        return self.published[school, max(d for s, d in self.published if s == school and d <= day)]

    def edit(self, school, refusals, make):
        """Refusals is a function of the draft's groups and specimens as dicts, and so is make."""
        if school not in (1, 2, 3):
            return -1
        tree = self.draft(school)
        told = ({k: (r, p) for k, r, p in tree[0]}, dict(tree[1]))
        number = first(refusals(*told))
        if number != 0:
            return number
        groups, homes = make(dict(told[0]), dict(told[1]))
        self.history[school] = (self.history[school] + [
            (frozenset((k, r, p) for k, (r, p) in groups.items()), frozenset(homes.items()))])[-13:]
        return 0

    def whole(self, school, refusals, make):
        """An edit that makes a tree of nothing; make is called only where no refusal holds."""
        def dicts(groups, homes):
            tree = make()
            return {k: (r, p) for k, r, p in tree[0]}, dict(tree[1])
        return self.edit(school, lambda g, h: refusals + [(-6, lambda: make() == self.draft(school))], dicts)

    def do_group(self, school, key, rank, parent):
        return self.edit(school, lambda g, h: [
            (-1, lambda: not is_key(key) or rank not in range(1, 9) or (parent != 0 and not is_key(parent))),
            (-2, lambda: key in g),
            (-4, lambda: parent != 0 and parent not in g),
            (-5, lambda: parent != 0 and g[parent][0] >= rank),
            (-9, lambda: len(g) == 32),
        ], lambda g, h: ({**g, key: (rank, parent)}, h))

    def do_put(self, school, x, group):
        return self.edit(school, lambda g, h: [
            (-1, lambda: not is_key(x) or not is_key(group)),
            (-4, lambda: group not in g),
            (-6, lambda: h.get(x) == group),
            (-9, lambda: x not in h and len(h) == 64),
        ], lambda g, h: (g, {**h, x: group}))

    def do_take(self, school, x):
        return self.edit(school, lambda g, h: [
            (-1, lambda: not is_key(x)),
            (-4, lambda: x not in h),
        ], lambda g, h: (g, {y: home for y, home in h.items() if y != x}))

    def do_move(self, school, group, parent):
        return self.edit(school, lambda g, h: [
            (-1, lambda: not is_key(group) or (parent != 0 and not is_key(parent))),
            (-4, lambda: group not in g or (parent != 0 and parent not in g)),
            (-5, lambda: parent != 0 and g[parent][0] >= g[group][0]),
            (-6, lambda: g[group][1] == parent),
        ], lambda g, h: ({**g, group: (g[group][0], parent)}, h))

    def do_lump(self, school, a, b):
        return self.edit(school, lambda g, h: [
            (-1, lambda: not is_key(a) or not is_key(b)),
            (-4, lambda: a not in g or b not in g),
            (-6, lambda: a == b),
            (-5, lambda: g[a][0] != g[b][0]),
        ], lambda g, h: (
            {k: (r, a if p == b else p) for k, (r, p) in g.items() if k != b},
            {x: a if home == b else home for x, home in h.items()}))

    def do_split(self, school, a, key, groups, specimens):
        return self.edit(school, lambda g, h: [
            (-1, lambda: not all(is_key(k) for k in [a, key] + groups + specimens)),
            (-1, lambda: any(row.count(k) > 1 for row in (groups, specimens) for k in row)),
            (-2, lambda: key in g),
            (-4, lambda: a not in g),
            (-4, lambda: any(k not in g or g[k][1] != a for k in groups) or any(h.get(x) != a for x in specimens)),
            (-6, lambda: groups == [] and specimens == []),
            (-9, lambda: len(g) == 32),
        ], lambda g, h: (
            {**{k: (r, key if k in groups else p) for k, (r, p) in g.items()}, key: g[a]},
            {x: key if x in specimens else home for x, home in h.items()}))

    def do_rank(self, school, group, rank):
        return self.edit(school, lambda g, h: [
            (-1, lambda: not is_key(group) or rank not in range(1, 9)),
            (-4, lambda: group not in g),
            (-5, lambda: g[group][1] != 0 and g[g[group][1]][0] >= rank),
            (-5, lambda: any(p == group and r <= rank for r, p in g.values())),
            (-6, lambda: g[group][0] == rank),
        ], lambda g, h: ({**g, group: (rank, g[group][1])}, h))

    def do_dissolve(self, school, group):
        return self.edit(school, lambda g, h: [
            (-1, lambda: not is_key(group)),
            (-4, lambda: group not in g),
            (-5, lambda: g[group][1] == 0 and group in h.values()),
        ], lambda g, h: (
            {k: (r, g[group][1] if p == group else p) for k, (r, p) in g.items() if k != group},
            {x: g[group][1] if home == group else home for x, home in h.items()}))

    def text_refusals(self, told):
        """Refusals of a text that has been parsed."""
        return [
            (-1, lambda: told is None),
            (-2, lambda: len({k for k, _, _ in told[0]}) < len(told[0])),
            (-3, lambda: len({x for x, _ in told[1]}) < len(told[1])),
            (-5, lambda: misranked(told[0])),
            (-9, lambda: len(told[0]) > 32 or len(told[1]) > 64),
        ]

    def do_load(self, school, text):
        told = parse(text)
        return self.whole(school, self.text_refusals(told), lambda: (frozenset(told[0]), frozenset(told[1])))

    def do_fetch(self, school, other, day):
        return self.whole(school, self.told_refusals(other, day), lambda: self.tree(other, day))

    def do_apply(self, school, rows):
        changes = [row for row in rows if len(row) == 4]

        def wrong(row):
            if len(row) != 4 or row[0] not in (1, 2, 3, 4) or not is_key(row[1]):
                return True
            if row[0] == 1:
                return row[2] not in range(1, 9) or (row[3] != 0 and not is_key(row[3]))
            return row[3] != 0 or (not is_key(row[2]) if row[0] == 3 else row[2] != 0)

        def out():
            gone = {(row[0] > 2, row[1]) for row in changes}
            tree = self.draft(school)
            groups = {told for told in tree[0] if (False, told[0]) not in gone}
            homes = {told for told in tree[1] if (True, told[0]) not in gone}
            return (frozenset(groups | {tuple(row[1:]) for row in changes if row[0] == 1}),
                    frozenset(homes | {tuple(row[1:3]) for row in changes if row[0] == 3}))

        def missing():
            keys = {told[0] for told in out()[0]} | {0}
            return any(told[2] not in keys for told in out()[0]) or any(home not in keys for _, home in out()[1])

        return self.whole(school, [
            (-1, lambda: any(wrong(row) for row in rows)),
            (-1, lambda: len({(row[0] > 2, row[1]) for row in changes}) < len(changes)),
            (-4, lambda: any(row[0] == 2 and row[1] not in [told[0] for told in self.draft(school)[0]] for row in changes)),
            (-4, lambda: any(row[0] == 4 and row[1] not in [told[0] for told in self.draft(school)[1]] for row in changes)),
            (-4, missing),
            (-5, lambda: misranked(out()[0])),
            (-9, lambda: len(out()[0]) > 32 or len(out()[1]) > 64),
        ], out)

    def do_agree(self, school, a, aday, b, bday):
        def out():
            one, other = self.tree(a, aday), self.tree(b, bday)
            kept = [told[0] for told in one[0] if held(one, told[0]) in sets(other)]

            def near(key):
                return ([k for k in chain(one, key) if k in kept] + [0])[0]
            return (frozenset((k, r, near(p)) for k, r, p in one[0] if k in kept),
                    frozenset((x, near(home)) for x, home in one[1] if near(home) != 0))
        return self.whole(school, self.told_refusals(a, aday) + self.told_refusals(b, bday), out)

    def do_undo(self, school):
        if school not in (1, 2, 3):
            return -1
        if len(self.history[school]) == 1:
            return -8
        self.history[school].pop()
        return 0

    def do_publish(self, school, day):
        number = first([
            (-1, lambda: school not in (1, 2, 3) or day not in range(0, 10 ** 6 + 1)),
            (-2, lambda: (school, day) in self.published),
            (-9, lambda: len(self.published) == 16),
        ])
        if number == 0:
            self.published[school, day] = self.draft(school)
        return number

    def ask(self, school, day, refusals, answer):
        """Refusals and answer are functions of the tree told, which isn't there where it's refused."""
        number = first(self.told_refusals(school, day))
        if number != 0:
            return number
        tree = self.tree(school, day)
        number = first(refusals(tree))
        return number if number != 0 else answer(tree)

    def ask_two(self, a, aday, b, bday, answer):
        number = first(self.told_refusals(a, aday) + self.told_refusals(b, bday))
        return number if number != 0 else answer(self.tree(a, aday), self.tree(b, bday))

    def do_text(self, school, day):
        return self.ask(school, day, lambda tree: [], lambda tree: counted([[ord(sign)] for sign in text_of(tree)]))

    def do_holds(self, school, day, group):
        return self.ask(school, day, lambda tree: [
            (-4, lambda: group not in {told[0] for told in tree[0]}),
        ], lambda tree: counted([[x] for x in sorted(held(tree, group))]))

    def do_path(self, school, day, x):
        return self.ask(school, day, lambda tree: [
            (-4, lambda: x not in dict(tree[1])),
        ], lambda tree: counted([(key, rank) for rank, key in holders(tree, x)]))

    def do_common(self, school, day, specimens):
        return self.ask(school, day, lambda tree: [
            (-1, lambda: specimens == [] or not all(is_key(x) for x in specimens)),
            (-1, lambda: any(specimens.count(x) > 1 for x in specimens)),
            (-4, lambda: any(x not in dict(tree[1]) for x in specimens)),
        ], lambda tree: max([(rank, key) for key, rank, _ in tree[0] if held(tree, key) >= set(specimens)] + [(0, 0)])[1])

    def do_level(self, school, day, rank):
        return self.ask(school, day, lambda tree: [
            (-1, lambda: rank not in range(1, 9)),
        ], lambda tree: counted([
            [key, len(held(tree, key))] + sorted(held(tree, key)) for key, told, _ in sorted(tree[0]) if told == rank]))

    def do_topmost(self, school, day, family, x):
        ranks = {1: (1, 2, 3, 4), 2: (5, 6), 3: (7, 8)}
        return self.ask(school, day, lambda tree: [
            (-1, lambda: family not in ranks),
            (-4, lambda: x not in dict(tree[1])),
        ], lambda tree: min([told for told in holders(tree, x) if told[0] in ranks[family]] + [(9, 0)])[1])

    def do_diff(self, a, aday, b, bday):
        def changes(one, other):
            groups = [[1, *told] for told in other[0] - one[0]]
            groups += [[2, key, 0, 0] for key in {told[0] for told in one[0]} - {told[0] for told in other[0]}]
            specimens = [[3, *told, 0] for told in other[1] - one[1]]
            return sorted(groups + specimens + [[4, x, 0, 0] for x in dict(one[1]).keys() - dict(other[1]).keys()])
        return self.ask_two(a, aday, b, bday, lambda one, other: counted(changes(one, other)))

    def do_clashes(self, a, aday, b, bday):
        def clash(one, other):
            return one & other and one - other and other - one
        return self.ask_two(a, aday, b, bday, lambda one, other: counted(sorted(
            (k, m) for k, _, _ in one[0] for m, _, _ in other[0] if clash(held(one, k), held(other, m)))))

    def do_distance(self, a, aday, b, bday):
        return self.ask_two(a, aday, b, bday, lambda one, other: [
            len(sets(one) - sets(other)), len(sets(other) - sets(one))])

    def do_closer(self, school, day, x, y, z):
        return self.ask(school, day, lambda tree: [
            (-1, lambda: not is_key(x) or not is_key(y) or not is_key(z) or x == y or x == z or y == z),
            (-4, lambda: not {x, y, z} <= set(dict(tree[1]))),
        ], lambda tree: [sum(told & {x, y, z} == {x, y} for told in sets(tree)) and 1])

    def do_versions(self, school):
        if school not in (1, 2, 3):
            return -1
        return counted([[day] for told, day in sorted(self.published) if told == school])

    def do_counts(self, school, day):
        return self.ask(school, day, lambda tree: [], lambda tree: [
            len(tree[0]), len(tree[1]), max([len(chain(tree, told[0])) for told in tree[0]] + [0]), len(sets(tree))])

    def do_check(self, text):
        told = parse(text)
        number = first(self.text_refusals(told))
        return number if number != 0 else [len(told[0]), len(told[1])]
