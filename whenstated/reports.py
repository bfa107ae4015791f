"""The questions that tell what was handed in: a way gone edge by edge, and all that is kept."""

from whenstated.refusals import BAD_LIST
from whenstated.telling import tell_truth
from whenstated.ways import list_edges


def find_edges_of_row(edges, row):
    """The edges of keys and directions by turns; None if the row is no such pairs."""
    if len(row) % 2 != 0:
        return None
    by_name = {}
    for edge in edges:
        by_name[(edge.key, edge.direction)] = edge
    found = []
    for i in range(0, len(row), 2):
        name = (row[i], row[i + 1])
        if name not in by_name:
            return None
        found.append(by_name[name])
    return found


def walk(edges, event, row):
    found = find_edges_of_row(edges, row)
    if found is None:
        return [BAD_LIST]
    at = event
    total = 0
    for edge in found:
        if edge.source != at:
            return [BAD_LIST]
        at = edge.target
        total = total + edge.weight
    return [0, at, total]


def tell_statement(statement):
    said = [statement.key, statement.witness, statement.a, statement.b, statement.lo, statement.hi]
    return said + [tell_truth(statement.stands)]


def tell_kept(n, statements):
    numbers = [n, len(statements)]
    for statement in statements:
        numbers.extend(tell_statement(statement))
    return numbers


def answer_report(kept, call):
    """The answer of the call, None if it is no question of these."""
    if call.name == "walk":
        return walk(list_edges(kept.list_standing()), call.numbers[0], call.row)
    if call.name == "told":
        return tell_kept(kept.n, kept.list_all())
    return None
