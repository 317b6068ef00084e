"""Chains that go from state to state by rates: their equations, and the chances of their ends."""

from copyrates.solving import solved


def chain_rows(inner, rates):
    """Return for each inner state a row: the rate at which it is left, less the rates at which it leads to inner ones.

    `rates(state)` is a dict from each next state, unlike the state itself, to its rate. If from each of
    the inner states a chain can leave them all, all determinants that `solved` goes through are above 0.
    """
    spots = {state: at for at, state in enumerate(inner)}
    rows = []
    for state in inner:
        row = [0] * len(inner)
        for reached, rate in rates(state).items():
            row[spots[state]] += rate
            if reached in spots:
                row[spots[reached]] -= rate
        rows.append(row)
    return rows


def exit_parts(inner, ends, rates):
    """Return (whole, parts): a chain leaves the inner states from inner[k] for ends[m] with parts[k][m] / whole.

    `rates` is as in `chain_rows`; it may lead to further states, which are ends that are not told.
    """
    rows = chain_rows(inner, rates)
    return solved([row + [rates(state).get(end, 0) for end in ends] for state, row in zip(inner, rows)])
