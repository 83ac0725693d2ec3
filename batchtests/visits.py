"""The visit of all places of a plan for a batch that consists of one row."""

from batchtests.truthwords import FAILS, NO, UNKNOWN, YES, deciding, exchanged, is_failure


class Visit:
    """What one row, alone in its batch, meets at the places of a plan.

    Of the row only the answers are needed: a dict with the truth of each literal of the plan as
    a test, and for each column the truth of the test whether its value is missing.

    The visit goes on where a batch stops: whatever comes later cannot change what came before,
    so the first stop that is noted is where the batch really stops.
    """

    def __init__(self, plan, answers):
        self.plan = plan
        self.answers = answers
        self.noted = []
        self.told = self.truth_at((), True, False)

    def truth_at(self, place, passed, protected):
        """Visit the place and all inside it, and return the truth there of a row that is in its list."""
        part = self.plan.condition[place]
        given = passed or place in self.plan.hoisted
        word = part[0]
        if word == "atmost":
            return self.answers[part[1:]]
        if word == "missing":
            return self.answers[part[1]]
        if word == "not":
            return exchanged(self.truth_at((*place, 0), given, protected))
        if word == "must":
            return self.must_truth(part, place, given, protected)
        if word == "case":
            return self.case_truth(part, place, given, protected)
        return self.joined_truth(part, place, given, protected)

    def must_truth(self, part, place, given, protected):
        """Visit a "must"."""
        _, code, literal, _ = part
        required = self.answers[literal]
        if required == NO and given and not protected:
            self.noted.append((place, code))
        found = self.truth_at((*place, 0), given and required == YES, protected)
        if required == NO:
            return (FAILS, code)
        return found if required == YES else UNKNOWN

    def joined_truth(self, part, place, given, protected):
        """Visit an "and" or an "or"."""
        way, order = self.plan.way(place)
        decides = deciding(part[0])
        truths = []
        for index in order:
            passed = given and (way != "lazy" or is_open(truths, decides))
            found = self.truth_at((*place, index), passed, protected or way == "deferred")
            if passed:
                truths.append(found)
        told = truth_together(truths, decides, way)
        if way == "deferred" and is_failure(told) and not protected:
            self.noted.append((place, told[1]))
        return told

    def case_truth(self, part, place, given, protected):
        """Visit a "case"."""
        eager = self.plan.way(place)[0] == "eager"
        last = 2 * len(part[1])
        truths = []
        for index in range(0, last, 2):
            passed = given and (eager or is_open(truths, YES))
            truths.append(self.truth_at((*place, index), passed, protected))
        chosen, told = choice(truths)
        for index in list(range(1, last, 2)) + [last]:
            found = self.truth_at((*place, index), given and (eager or index == chosen), protected)
            if index == chosen:
                told = found
        return told


def is_open(truths, decides):
    """Tell whether a lazy part goes on after these truths."""
    return not any([one == decides or is_failure(one) for one in truths])


def truth_together(truths, decides, way):
    """Return the truth of an "and" or an "or" whose parts gave these truths in its order."""
    failures = [one for one in truths if is_failure(one)]
    # A lazy part has no truth after one that decides or fails, so one of the two is there at most.
    if decides in truths and (way == "deferred" or not failures):
        return decides
    if failures:
        return failures[0]
    return UNKNOWN if UNKNOWN in truths else exchanged(decides)


def choice(truths):
    """Return the index of the part that the tests choose and None, or None and their failure."""
    for index, one in enumerate(truths):
        if one == YES:
            return (2 * index + 1, None)
        if is_failure(one):
            return (None, one)
    return (2 * len(truths), None)
