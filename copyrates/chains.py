"""Chains that go from state to state by rates: their equations, and the chances of their ends."""

from copyrates.solving import solved


def chain_rows(states, rates):
    """Return for each state a row: the rate at which it is left, less the rates at which it leads to the states.

    `rates(state)` is a dict from each next state, unlike the state itself, to its rate. If from each of
    the states a chain can leave the states, all determinants that `solved` goes through are above 0.
    """
    spots = {state: at for at, state in enumerate(states)}
    rows = []
    for state in states:
        row = [0] * len(states)
        for reached, rate in rates(state).items():
            row[spots[state]] += rate
            if reached in spots:
                row[spots[reached]] -= rate
        rows.append(row)
    return rows


def exit_parts(states, ends, rates):
    """Return (whole, parts): from states[k] a chain leaves all states for ends[m] with the chance parts[k][m] / whole.

    `rates` is as in `chain_rows`; it may lead to further states, which are ends that are not told.
    """
    rows = chain_rows(states, rates)
    return solved([row + [rates(state).get(end, 0) for end in ends] for state, row in zip(states, rows)])
