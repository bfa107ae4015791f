"""The ring by which one sees that statements can't all be true.

A table holds at [i][j] the least sum of the ways of just so many edges from i to j, None if there is no such way.
"""

from whenstated.ways import can_all_be_true


def make_table(n):
    return [[None] * n for i in range(n)]


def make_table_of_no_edges(n):
    table = make_table(n)
    for i in range(n):
        table[i][i] = 0
    return table


def lower_row(row, onward, weight):
    """Lowers row to the sums of onward with weight ahead of them."""
    for i in range(len(row)):
        if onward[i] is None:
            continue
        reached = onward[i] + weight
        if row[i] is None or reached < row[i]:
            row[i] = reached


def lengthen(edges, table):
    """The table of the ways that have one edge more."""
    longer = make_table(len(table))
    for edge in edges:
        lower_row(longer[edge.source], table[edge.target], edge.weight)
    return longer


def find_least_return(table):
    """The event with the least sum below 0 of ways back to it, the least of several; None if there is none."""
    least = 0
    found = None
    for i in range(len(table)):
        total = table[i][i]
        if total is not None and total < least:
            least = total
            found = i
    return found


def find_first_edge(edges, source, table, goal, total):
    """The first edge from source behind which a way of the table leads to goal, with this total of both."""
    for edge in edges:
        if edge.source != source:
            continue
        onward = table[edge.target][goal]
        if onward is not None and edge.weight + onward == total:
            return edge
    return None


def find_first_way(edges, tables, source, goal):
    """The first of the ways from source to goal with the least sum and as many edges as the last table is of.

    The tables are those of 0, 1, 2 and so on edges, and the last one has such a way.
    """
    way = []
    at = source
    total = tables[-1][source][goal]
    for table in reversed(tables[:-1]):
        edge = find_first_edge(edges, at, table, goal, total)
        way.append(edge)
        at = edge.target
        total = total - edge.weight
    return way


def find_ring(n, edges):
    """The edges of the ring that is told, in order; none if the statements can all be true."""
    # This is asked ahead of the tables because it takes far fewer steps.
    if can_all_be_true(n, edges):
        return []
    tables = [make_table_of_no_edges(n)]
    # A ring of the fewest edges meets no event twice, so it has at most n edges.
    for turn in range(n):
        tables.append(lengthen(edges, tables[-1]))
        event = find_least_return(tables[-1])
        if event is not None:
            return find_first_way(edges, tables, event, event)
    return []
