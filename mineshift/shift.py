"""A line of calls, and what is answered to it."""

from mineshift.calls import Mine, answer_call
from mineshift.forms import Reader, read_call


def answers(calls):
    """For each call in order: how many numbers are answered, then these."""
    mine = Mine()
    reader = Reader(calls)
    given = []
    while reader.has_more():
        answer = answer_call(mine, read_call(reader))
        given.append(len(answer))
        given.extend(answer)
    return given
