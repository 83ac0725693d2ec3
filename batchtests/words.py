"""Words: tables of which only the joint fates of the rows are known."""

from batchtests.levels import differ
from batchtests.runners import START, Runner


def shortest_word(one, other, level, pairs):
    """Return a shortest list of joint fates on which the runs of the engines differ, or None.

    The words are gone through by their lengths. Two words after which both runs are in the same
    states can only be made to differ by the same further rows, so one of them is enough.
    """
    runners = (Runner(one, level), Runner(other, level))
    letters = letters_of(runners, pairs)
    met = {(START, START): True}
    edge = [((START, START), ())]
    while edge:
        further = []
        for states, word in edge:
            for signs, pair in letters.items():
                reached = after_both(runners, states, signs)
                if have_differed(runners, level, reached):
                    return [*word, pair]
                if reached not in met and not are_over(reached):
                    met[reached] = True
                    further.append((reached, (*word, pair)))
        edge = further
    return None


def letters_of(runners, pairs):
    """Return a dict from each pair of signs to one of the pairs of fates that have them."""
    letters = {}
    for pair in pairs:
        signs = tuple([runner.sign(fate) for runner, fate in zip(runners, pair)])
        letters.setdefault(signs, pair)
    return letters


def after_both(runners, states, signs):
    """Return the states of both runs after one more row."""
    after = [runner.after(state, sign) for runner, state, sign in zip(runners, states, signs)]
    if any([runner.limit is not None for runner in runners]):
        return tuple(after)
    # Without limits only the difference of the numbers of selected rows matters.
    least = min([many for _, _, many, _, _ in after])
    return tuple([(*state[:2], state[2] - least, *state[3:]) for state in after])


def have_differed(runners, level, states):
    """Tell whether the runs differ by the level if the table ends here."""
    results = [runner.result(state) for runner, state in zip(runners, states)]
    return differ(level, results[0], results[1])


def are_over(states):
    """Tell whether both runs have ended."""
    return all([over for _, _, _, _, over in states])
