"""The judge: the first wrong row of any book."""

from sumtold.errors import NoDeed
from sumtold.forms import is_tuple_of
from sumtold.pairs import is_whole_number
from sumtold.run import Run


def is_just(thing, told):
    """Whether a thing, any, is just what a run tells; it is looked into only as deep as that goes."""
    if isinstance(told, tuple):
        if not is_tuple_of(thing, len(told)):
            return False
        return all(is_just(mine, yours) for mine, yours in zip(thing, told))
    if isinstance(told, str):
        return isinstance(thing, str) and thing == told
    if told is None:
        return thing is None
    return is_whole_number(thing) and thing == told


def is_right(run, row):
    """Whether a thing, any, is the row that the run tells of a deed now, which is done then."""
    if not is_tuple_of(row, 2):
        return False
    try:
        told = run.do(row[0])
    except NoDeed:
        return False
    return is_just(row[1], told[1])


def judge(web, book):
    run = Run(web)
    if not isinstance(book, list):
        return 0
    for at, row in enumerate(book):
        if not is_right(run, row):
            return at
    return None
