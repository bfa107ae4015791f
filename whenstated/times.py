"""The calls on one collection of statements, answered one after another."""

from whenstated.changes import answer_change
from whenstated.doubts import answer_doubt
from whenstated.follows import answer_follows
from whenstated.kept import Kept
from whenstated.questions import answer_question
from whenstated.reading import has_numbers_in_range, read_calls
from whenstated.refusals import OUT_OF_RANGE
from whenstated.reports import answer_report


def answer_call(kept, call):
    if not has_numbers_in_range(call, kept.n):
        return [OUT_OF_RANGE]
    answer = answer_change(kept, call.name, call.numbers)
    if answer is None:
        answer = answer_question(kept, call)
    if answer is None:
        answer = answer_follows(kept, call)
    if answer is None:
        answer = answer_doubt(kept, call)
    if answer is None:
        answer = answer_report(kept, call)
    return answer


def answers(calls):
    """For each call of the list: how many numbers it answers, then these."""
    kept = Kept()
    told = []
    for call in read_calls(calls):
        answer = answer_call(kept, call)
        told.append(len(answer))
        told.extend(answer)
    return told
