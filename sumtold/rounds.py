"""Full rounds of a run, and how near answers come by them."""

from sumtold.errors import BadWeb
from sumtold.pairs import below, halvings, less, pair, times
from sumtold.run import Run
from sumtold.webs import check_web, is_whole, tied_to


def full_round(run):
    first = run.written()
    turners = [name for name in run.names() if run.is_up(name)]
    rows = []
    for name in turners:
        rows.append(run.do(("turn", name)))
    for k in range(first, run.written()):
        rows.append(run.do(("come", k)))
    return rows


def rounds(web, many):
    run = Run(web)
    for k in range(many):
        full_round(run)
    return run


def bound(web, many):
    if not is_whole(web) or len(web[0]) == 1:
        raise BadWeb("there is a bound of a web of two hands or more alone, that is whole")
    hands, ties = web
    farthest = len(hands) - 1
    most_ties = max(len(tied_to(name, ties)) for name, numbers in hands)
    shares = 1 << (halvings(most_ties) * farthest)
    left = pair(shares - 1, shares)
    told = (1, 1)
    for k in range((many - 1) // farthest):
        told = times(told, left)
    return told


def distance(web):
    check_web(web)
    owns = [numbers for name, numbers in web[0]]
    return tuple(max(column) - min(column) for column in zip(*owns))


def width(column):
    least = greatest = column[0]
    for one in column:
        if below(one, least):
            least = one
        if below(greatest, one):
            greatest = one
    return less(greatest, least)


def spread(run):
    answers = [run.answer(name) for name in run.names()]
    if not answers or any(answer is None for answer in answers):
        return None
    return tuple(width(column) for column in zip(*answers))
