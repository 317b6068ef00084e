"""The search for least rows of moves, which several modules share."""


def least_rows(starts, moves):
    """Return for each state that can be reached a least row of moves to it.

    `moves(state)` gives pairs (move, next state). The result is a dict from
    each state to the tuple of moves that leads to it from one of the starts.
    """
    rows = {}
    for state in starts:
        rows[state] = ()
    # The queue grows while it is read, so it is read by an index and not walked.
    queue = list(starts)
    at = 0
    while at < len(queue):
        state = queue[at]
        for move, reached in moves(state):
            if reached not in rows:
                rows[reached] = rows[state] + (move,)
                queue.append(reached)
        at += 1
    return rows
