"""What several tests need: objects of many kinds, and answers found without the program."""

from itertools import combinations, product

from batchtests.columns import Columns
from batchtests.conditions import Condition
from batchtests.engines import Engine
from batchtests.errors import BatchError, NoRow
from batchtests.plans import Plan
from batchtests.rowsets import RowSet

OTHER_OBJECTS = [
    None, True, False, 0, 1, -1, 10 ** 100, 1.5, float("nan"), 2j,
    b"", b"a", bytearray(b"a"), memoryview(b"a"), [], ["a"], (), ("a",), {}, {"a": 1},
    set(), {"a"}, frozenset({"a"}), range(3), slice(1), iter(()), (x for x in ()),
    object(), int, str, len, lambda: "a", Ellipsis, NotImplemented, ValueError("a"),
    Columns("a"), BatchError("a"), NoRow("a"), NoRow, RowSet(Columns("a"), ()), RowSet,
    Condition(Columns("a"), ("missing", "a")), [[]], ((),), ([],), ("a", []), {"a": []},
]

NOT_NAMES = [
    "", "abcdefghi", "and", "case", "else", "is", "missing", "must", "not", "or",
    "A", "aB", "a1", "1", "a_b", "_", "a b", " a", "a ", "a\n", "a-b", "\u00e4", "\u00df", "\uff41", "a\u0301", "\0",
]


def holds(row, literal):
    """True or False, or None if a column of the literal is missing."""
    value = {**row, "": 0}
    a, b, n = literal
    if value[a] is None or value[b] is None:
        return None
    return value[a] <= value[b] + n


def signature(row, literals):
    """The missing columns of the row, and the truths of the literals without a missing column."""
    truths = [holds(row, literal) for literal in sorted(set(literals))]
    return tuple(name for name in sorted(row) if row[name] is None), tuple(truths)


def grid(names, values):
    """All rows whose values are taken from the given ones or missing."""
    return [dict(zip(names, taken)) for taken in product([None, *values], repeat=len(names))]


def signatures_on(names, literals, values):
    """All signatures of the rows whose values are taken from the given ones or missing."""
    return {signature(row, literals) for row in grid(names, values)}


def rows_by_signature(names, literals, values):
    """One row for each signature of the rows whose values are taken from the given ones or missing."""
    found = {}
    for row in grid(names, values):
        found.setdefault(signature(row, literals), row)
    return list(found.values())


def fits(row, cases):
    """Whether the row fits one of the cases at least."""
    for missing, literals in cases:
        gone = {name for name in row if row[name] is None}
        if gone == set(missing) and all(holds(row, literal) for literal in literals):
            return True
    return False


def random_literals(chance, names, many, bound):
    """A list of random literals with numbers up to the bound."""
    found = []
    for _ in range(many):
        a, b = chance.sample(["", *names], 2)
        found.append((a, b, chance.randint(-bound, bound)))
    return found


def random_part(chance, names, literals, depth, codes="xyz"):
    """A random part over some of the literals, at most so deep."""
    word = chance.choice(["atmost", "missing", "must", "not", "and", "or", "case"]) if depth > 1 else "atmost"
    if word == "atmost":
        if chance.random() < 0.2:
            return ("missing", chance.choice(names))
        return ("atmost", *chance.choice(literals))
    if word == "missing":
        return ("missing", chance.choice(names))

    def inner():
        return random_part(chance, names, literals, depth - 1, codes)

    if word == "must":
        return ("must", chance.choice(codes), chance.choice(literals), inner())
    if word == "not":
        return ("not", inner())
    if word == "case":
        return ("case", tuple((inner(), inner()) for _ in range(chance.randint(1, 3))), inner())
    return (word, tuple(inner() for _ in range(chance.randint(1, 4))))


def joined_places(condition):
    """The places of the "and", "or" and "case" parts with their words and numbers of parts."""
    found = {}
    for place in condition.places():
        part = condition[place]
        if part[0] in ("and", "or", "case"):
            found[place] = (part[0], len(part[1]))
    return found


def written_ways(condition):
    """The ways and orders of the plain plan, at all places."""
    found = {}
    for place, (word, many) in joined_places(condition).items():
        found[place] = ("lazy", None if word == "case" else tuple(range(many)))
    return found


def random_ways(chance, condition):
    """Random ways and orders at all places."""
    found = {}
    for place, (word, many) in joined_places(condition).items():
        if word == "case":
            found[place] = (chance.choice(["lazy", "eager"]), None)
        else:
            found[place] = (chance.choice(["lazy", "eager", "deferred"]), tuple(chance.sample(range(many), many)))
    return found


class Stopped(Exception):
    """A batch stopped at a place with a row and a code."""

    def __init__(self, place, index, code):
        self.place, self.index, self.code = place, index, code


class Batch:
    """A batch of rows by the rules of point 6.6, worked out for lists of rows (here: of indexes)."""

    def __init__(self, part, ways, hoisted, rows):
        self.ways, self.hoisted, self.rows = ways, hoisted, rows
        self.visited, self.stops, self.stopped, self.truths = [], [], None, None
        try:
            self.truths = self.visit((), part, list(range(len(rows))), False)
        except Stopped as stopped:
            self.stopped = stopped

    def fate(self):
        """The fate of the row, if it is the only one."""
        if self.stopped:
            return ("fails", self.stopped.place, self.stopped.code)
        return ("selected",) if self.truths[0] == "yes" else ("dropped",)

    def result(self):
        """The selected indexes, and None or the index and the code with which the batch stopped."""
        if self.stopped:
            return [], (self.stopped.index, self.stopped.code)
        return [k for k in sorted(self.truths) if self.truths[k] == "yes"], None

    def visit(self, place, part, passed, protected):
        """The truths of the rows of the list of the place, by their indexes."""
        self.visited.append(place)
        listed = list(range(len(self.rows))) if place in self.hoisted else passed
        word = part[0]
        if word == "missing":
            return {k: "yes" if self.rows[k][part[1]] is None else "no" for k in listed}
        if word == "atmost":
            return {k: self.test(part[1:], k) for k in listed}
        if word == "not":
            inside = self.visit(place + (0,), part[1], listed, protected)
            return {k: {"yes": "no", "no": "yes"}.get(inside[k], inside[k]) for k in listed}
        if word == "must":
            return self.must(place, part, listed, protected)
        if word == "case":
            return self.case(place, part, listed, protected)
        return self.joined(place, part, listed, protected)

    def test(self, literal, k):
        return {True: "yes", False: "no", None: "unknown"}[holds(self.rows[k], literal)]

    def must(self, place, part, listed, protected):
        required = {k: self.test(part[2], k) for k in listed}
        if not protected:
            self.stops.append(place)
            for k in listed:
                if required[k] == "no":
                    raise Stopped(place, k, part[1])
        inside = self.visit(place + (0,), part[3], [k for k in listed if required[k] == "yes"], protected)
        other = {"no": ("fails", part[1]), "unknown": "unknown"}
        return {k: inside[k] if required[k] == "yes" else other[required[k]] for k in listed}

    def joined(self, place, part, listed, protected):
        way, order = self.ways[place]
        decides, otherwise = ("no", "yes") if part[0] == "and" else ("yes", "no")
        inner = protected or way == "deferred"
        seen = {k: [] for k in listed}
        passed = listed
        for index in order:
            inside = self.visit(place + (index,), part[1][index], passed, inner)
            for k in passed:
                seen[k].append(inside[k])
            if way == "lazy":
                passed = [k for k in passed if inside[k] in ("unknown", otherwise)]
        told = {k: self.together(seen[k], way, decides, otherwise) for k in listed}
        if way == "deferred" and not protected:
            self.stops.append(place)
            for k in listed:
                if type(told[k]) is tuple:
                    raise Stopped(place, k, told[k][1])
        return told

    def together(self, seen, way, decides, otherwise):
        failures = [truth for truth in seen if type(truth) is tuple]
        if way == "lazy":
            ranks = [truth for truth in seen if truth == decides or type(truth) is tuple]
        elif way == "eager":
            ranks = failures + [truth for truth in seen if truth == decides]
        else:
            ranks = [truth for truth in seen if truth == decides] + failures
        return (ranks + [truth for truth in seen if truth == "unknown"] + [otherwise])[0]

    def case(self, place, part, listed, protected):
        eager = self.ways[place][0] == "eager"
        branch, failed = {}, {}
        passed = listed
        many = len(part[1])
        for i in range(many):
            inside = self.visit(place + (2 * i,), part[1][i][0], passed, protected)
            for k in passed:
                if k not in branch and k not in failed:
                    if inside[k] == "yes":
                        branch[k] = i
                    elif type(inside[k]) is tuple:
                        failed[k] = inside[k]
            if not eager:
                passed = [k for k in passed if k not in branch and k not in failed]
        told = dict(failed)
        for i in range(many + 1):
            own = [k for k in listed if k not in failed and branch.get(k, many) == i]
            index, chosen = (2 * i + 1, part[1][i][1]) if i < many else (2 * many, part[2])
            inside = self.visit(place + (index,), chosen, listed if eager else own, protected)
            told.update({k: inside[k] for k in own})
        return told


def random_plan(chance, names, literals, depth):
    """A random plan with its ways at all places."""
    condition = Condition(Columns(*names), random_part(chance, names, literals, depth))
    ways = random_ways(chance, condition)
    places = condition.places()
    hoisted = chance.sample(places, min(len(places), chance.choice([0, 0, 1, 2, 3])))
    return Plan(condition, ways, hoisted=tuple(hoisted)), ways


def run_by_rules(plan, ways, size, limit, rows):
    """The pairs that the batches of a table give, worked out for the lists of rows of each batch."""
    pairs, many = [], 0
    for start in range(0, len(rows), size):
        batch = Batch(plan.condition.part, ways, plan.hoisted, rows[start:start + size])
        found, error = batch.result()
        if error is not None:
            return pairs + [([], (start + error[0], error[1]))]
        found = [start + index for index in found][:None if limit is None else limit - many]
        many += len(found)
        pairs.append((found, None))
        if many == limit:
            break
    return pairs


def joined(pairs):
    """The result of a run whose batches give these pairs."""
    selected = [index for found, _ in pairs for index in found]
    return selected, pairs[-1][1] if pairs else None


def ways_of(plan):
    """The ways and orders of a plan at all places."""
    return {place: plan.way(place) for place in joined_places(plan.condition)}


def joint_rows(one, other, values):
    """One row for each joint fate that a row with some of the values has by the rules."""
    names = one.columns.names
    literals = one.condition.literals() + other.condition.literals()
    found = {}
    for row in rows_by_signature(names, literals, values):
        pair = tuple(Batch(plan.condition.part, ways_of(plan), plan.hoisted, [row]).fate() for plan in (one, other))
        found.setdefault(pair, row)
    return found


def run_of_fates(order, size, limit, met):
    """The result of a run of rows with these fates, where the places stop in this order."""
    selected = []
    for start in range(0, len(met), size):
        batch = list(enumerate(met))[start:start + size]
        failed = [(order.index(one[1]), index, one[2]) for index, one in batch if one[0] == "fails"]
        if failed:
            return selected, min(failed)[1:]
        selected += [index for index, one in batch if one == ("selected",)]
        if limit is not None and len(selected) >= limit:
            return selected[:limit], None
    return selected, None


def runs_differ(level, first, second):
    """Whether two results differ by the level."""
    (selected, error), (others, fault) = first, second
    one_fails = (error is None) != (fault is None)
    if level == "rows":
        return one_fails or (error is None and selected != others)
    if level == "output":
        return one_fails or selected != others
    return (selected, error) != (others, fault)


class Settled(Batch):
    """A batch of one row of which only the missing columns and the answers to the tests are known."""

    def test(self, literal, k):
        return self.rows[k][literal]


def settled_fates(plan, gone, tested):
    """The fates of a plan for all that a branch leaves open, where columns and literals have these truths."""
    names, literals = plan.columns.names, plan.condition.literals()
    found = []
    for missing in product([True, False], repeat=len(names)):
        row = {name: None if absent else 0 for name, absent in zip(names, missing)}
        if any((row[name] is None) != gone[name] for name in gone):
            continue
        for truths in product([True, False], repeat=len(literals)):
            taken = {literal: tested.get(literal, truth) for literal, truth in zip(literals, truths)}
            answers = dict(row)
            for literal in literals:
                absent = any(term and row[term] is None for term in literal[:2])
                answers[literal] = "unknown" if absent else "yes" if taken[literal] else "no"
            one = Settled(plan.condition.part, ways_of(plan), plan.hoisted, [answers]).fate()
            if one not in found:
                found.append(one)
    return found


def tree_closes(names, wants, tree, gone=None, tested=None):
    """Whether the tree closes for the wants, by the words of points 10.2 to 10.5."""
    gone, tested = gone or {}, tested or {}
    if type(tree) is not tuple or not tree:
        return False
    word, *rest = tree
    if word == "missing" and len(rest) == 3:
        name = rest[0]
        if type(name) is not str or name not in list(names) or name in gone:
            return False
        return (tree_closes(names, wants, rest[1], {**gone, name: True}, tested)
                and tree_closes(names, wants, rest[2], {**gone, name: False}, tested))
    if word == "test" and len(rest) == 3:
        literal = rest[0]
        if type(literal) is not tuple or len(literal) != 3 or type(literal[2]) is not int:
            return False
        present = [""] + [name for name in gone if not gone[name]]
        if [term for term in literal[:2] if type(term) is not str or term not in present]:
            return False
        if literal[0] == literal[1] or literal in tested:
            return False
        return (tree_closes(names, wants, rest[1], gone, {**tested, literal: True})
                and tree_closes(names, wants, rest[2], gone, {**tested, literal: False}))
    if word == "ring" and len(rest) == 1:
        steps = [(a, b, n) if truth else (b, a, -n - 1) for (a, b, n), truth in tested.items()]
        return is_ring_of(steps, rest[0])
    if tree == ("settled",):
        return any(not set(settled_fates(plan, gone, tested)) & set(fates) for plan, fates in wants)
    return False


def is_ring_of(steps, indexes):
    """Whether the object is a tuple of indexes of steps that lead back to where they began, with a sum below 0."""
    if type(indexes) is not tuple or not indexes:
        return False
    if any(type(index) is not int or index not in range(len(steps)) for index in indexes):
        return False
    at, total = steps[indexes[0]][0], 0
    for index in indexes:
        a, b, n = steps[index]
        if a != at:
            return False
        at, total = b, total + n
    return at == steps[indexes[0]][0] and total < 0


def full_tree(plans, names, end, gone=None, tested=None):
    """The tree that asks all columns and then all literals, with what `end` gives at each end."""
    gone, tested = gone or {}, tested or {}
    for name in names:
        if name not in gone:
            sides = [full_tree(plans, names, end, {**gone, name: truth}, tested) for truth in (True, False)]
            return ("missing", name, *sides)
    for literal in [literal for plan in plans for literal in plan.condition.literals()]:
        if literal not in tested and not any(term and gone[term] for term in literal[:2]):
            sides = [full_tree(plans, names, end, gone, {**tested, literal: truth}) for truth in (True, False)]
            return ("test", literal, *sides)
    return end(gone, tested)


def subsets(places):
    """All sets of some of the places, as ascending tuples."""
    places = sorted(places)
    return [tuple(chosen) for many in range(len(places) + 1) for chosen in combinations(places, many)]


def changed_engine(engine, ways):
    """The engine whose plan has these pairs of a way and an order at these places."""
    plan = engine.plan
    return Engine(Plan(plan.condition, {**ways_of(plan), **ways}, hoisted=plan.hoisted), engine.size, engine.limit)


def random_joined(chance, literals, depth):
    """A random part over "a" and "b" in which orders and ways often matter."""
    literal = chance.choice(literals)
    chosen = chance.random()
    if depth == 0 or chosen < 0.25:
        test = ("atmost", *literal) if chance.random() < 0.85 else ("missing", chance.choice("ab"))
        if chance.random() < 0.45:
            return ("must", chance.choice("xy"), chance.choice(literals), test)
        return test
    inner = [random_joined(chance, literals, depth - 1) for _ in range(chance.choice([2, 2, 3]))]
    if chosen < 0.35:
        return ("case", ((inner[0], inner[1]),), inner[-1])
    if chosen < 0.4:
        return ("not", inner[0])
    return (chance.choice(["and", "or"]), tuple(inner))


def random_small_plan(chance, literals, sizes, calm=0.5):
    """A random plan over "a" and "b" with one of these numbers of parts that have ways."""
    while True:
        condition = Condition(Columns("a", "b"), random_joined(chance, literals, 2))
        if len(joined_places(condition)) in sizes and condition.codes() and len(condition.places()) <= 20:
            ways = random_ways(chance, condition)
            if chance.random() < calm:
                ways = {place: ("lazy", order) for place, (_, order) in ways.items()}
            places = condition.places()
            hoisted = tuple(chance.sample(places, chance.choice([0, 0, 1])))
            return Plan(condition, ways, hoisted=hoisted)
