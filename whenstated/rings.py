"""The ring by which one sees that statements can't all be true.

A table holds, by goal, the least sums of the ways of just so many edges from each event to it.
"""

from whenstated.firsts import find_first_way, lengthen, make_sums_of_no_edges
from whenstated.ways import can_all_be_true


def find_least_return(table):
    """The event with the least sum below 0 of ways back to it, the least of several; None if there is none."""
    least = 0
    found = None
    for i in range(len(table)):
        total = table[i][i]
        if total is not None and total < least:
            least = total
            found = i
    return found


def find_ring(n, edges):
    """The edges of the ring that is told, in order; none if the statements can all be true."""
    # This is asked ahead of the tables because it takes far fewer steps.
    if can_all_be_true(n, edges):
        return []
    tables = [[make_sums_of_no_edges(n, goal) for goal in range(n)]]
    # A ring of the fewest edges meets no event twice, so it has at most n edges.
    for turn in range(n):
        tables.append([lengthen(edges, sums) for sums in tables[-1]])
        event = find_least_return(tables[-1])
        if event is not None:
            return find_first_way(edges, [table[event] for table in tables], event)
    return []
