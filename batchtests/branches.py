"""Branches of trees: what is known of the rows along a branch, and what it leaves open."""

from batchtests.bounds import opposite
from batchtests.fates import fate_when
from batchtests.truthwords import NO, UNKNOWN, YES


class Branch:
    """What a branch has asked so far, each with the answer YES or NO.

    `asked` has the columns, with YES for a missing value. `tested` has the literals in the order
    of the tests. Branches are never changed.
    """

    def __init__(self, asked, tested):
        self.asked = asked
        self.tested = tested

    def steps(self):
        """Return the list of the steps that the tests give."""
        return [
            literal if answer == YES else opposite(literal)
            for literal, answer in self.tested.items()
        ]


def sides_of(branch, word, asked):
    """Return the two branches that go on from this one where a tree asks a column or a literal."""
    if word == "missing":
        return [Branch({**branch.asked, asked: answer}, branch.tested) for answer in (YES, NO)]
    return [Branch(branch.asked, {**branch.tested, asked: answer}) for answer in (YES, NO)]


class Prospect:
    """A plan with the fates that it gives where a branch ends, each worked out once."""

    def __init__(self, plan):
        self.plan = plan
        self.worked = {}

    def can_meet(self, branch, fates):
        """Tell whether what the branch leaves open can be settled so that the fate is one of these."""
        for answers in settlings(self.plan, branch):
            if self.fate_by(answers) in fates:
                return True
        return False

    def fates_at(self, branch):
        """Return the fate for each way to settle what the branch leaves open."""
        return [self.fate_by(answers) for answers in settlings(self.plan, branch)]

    def fate_by(self, answers):
        """Return the fate of each row for which the tests have these answers."""
        key = tuple([answers[test] for test in [*self.plan.columns.names, *self.plan.tests]])
        if key not in self.worked:
            self.worked[key] = fate_when(self.plan, answers)
        return self.worked[key]


def settlings(plan, branch):
    """Return all answers to the tests of the plan that the branch leaves open, as a list of dicts."""
    found = [branch.asked]
    for name in plan.columns.names:
        if name not in branch.asked:
            found = [{**answers, name: answer} for answers in found for answer in (YES, NO)]
    for literal in plan.tests:
        found = [
            {**answers, literal: answer}
            for answers in found for answer in answers_to(literal, answers, branch)
        ]
    return found


def answers_to(literal, answers, branch):
    """Return the answers that the literal can have where the columns have these."""
    if any([answers.get(term) == YES for term in literal[:2]]):
        return (UNKNOWN,)
    # Whatever other tests of the branch imply does not count.
    return (branch.tested[literal],) if literal in branch.tested else (YES, NO)
