"""Webs, random deeds and slow readings, for tests of hands and runs."""

from fractions import Fraction

from sumtold.run import Run

NAMES = "a b c d e f g h".split()
STILL = ("turn", "come", "fall", "back")
ALL_KINDS = STILL + ("fresh", "set", "tie", "cut", "join", "leave")


def fraction(part):
    return Fraction(part[0], 2 ** part[1])


def fractions(row):
    return [fraction(part) for part in row]


def total(rows, size):
    """The sum of rows, reckoned with fractions."""
    sums = [Fraction(0)] * (size + 1)
    for row in rows:
        sums = [one + other for one, other in zip(sums, fractions(row))]
    return sums


def random_numbers(rng, size):
    return tuple(rng.choice((0, 1, -1, rng.randint(-50, 50), 10 ** 12, -10 ** 12)) for _ in range(size))


def random_web(rng, many=None, size=None, whole=False):
    many = many or rng.randint(1, 8)
    size = size or rng.randint(1, 3)
    names = rng.sample(NAMES, many)
    ties = []
    for at, name in enumerate(names):
        if at and whole:
            ties.append((rng.choice(names[:at]), name))
        for other in names[:at]:
            if rng.random() < 0.4 and (other, name) not in ties:
                ties.append((other, name))
    ties = [tie if rng.random() < 0.5 else tie[::-1] for tie in ties]
    rng.shuffle(ties)
    return ([(name, random_numbers(rng, size)) for name in names], ties)


def some_new_name(rng, run):
    taken = {deed[1] for deed, _ in run.book() if deed[0] == "join"} | set(run.names()) | set(NAMES)
    while True:
        name = "".join(rng.choice("abcdwxyz") for _ in range(rng.randint(2, 8)))
        if name not in taken:
            return name


def possible_deeds(rng, run, kind, size):
    """Deeds of a kind that can be done now (of joins and comings some)."""
    names = run.names()
    if kind == "come":
        return [("come", rng.randrange(run.written())) for _ in range(min(1, run.written()))]
    if kind == "join":
        return [("join", some_new_name(rng, run), random_numbers(rng, size))] if len(names) < 8 else []
    if kind == "set":
        return [("set", name, random_numbers(rng, size)) for name in names]
    if kind in ("tie", "cut"):
        pairs = [(one, other) for one in names for other in names if one != other]
        return [(kind, one, other) for one, other in pairs if (other in run.others(one)) == (kind == "cut")]
    if kind in ("turn", "fall"):
        return [(kind, name) for name in names if run.is_up(name)]
    if kind == "back":
        return [(kind, name) for name in names if not run.is_up(name)]
    return [(kind, name) for name in names]


WEIGHTS = {"turn": 12, "come": 30, "fall": 2, "back": 3, "fresh": 2, "set": 2, "tie": 4, "cut": 2, "join": 1, "leave": 1}


def random_deed(rng, run, kinds, size):
    for _ in range(100):
        kind = rng.choices(kinds, [WEIGHTS[kind] for kind in kinds])[0]
        deeds = possible_deeds(rng, run, kind, size)
        if deeds:
            return rng.choice(deeds)
    return None


def steps_away(run, name):
    """Of all hands to which ties lead from this one, how many ties away they are."""
    away = {name: 0}
    heap = [name]
    for here in heap:
        for other in run.others(here):
            if other not in away:
                away[other] = away[here] + 1
                heap.append(other)
    return away


def all_up(run):
    for name in run.names():
        if not run.is_up(name):
            run.do(("back", name))


def turn_and_come(run, name):
    first = run.written()
    run.do(("turn", name))
    for k in range(first, run.written()):
        run.do(("come", k))


def run_without_an_answer():
    """A run whose hand a is sure, and has no answer."""
    run = Run(([("a", (1,)), ("b", (2,)), ("c", (3,))], [("a", "b"), ("c", "a")]))
    # c keeps what a hands on from b; b begins anew, and a has given more than it ever had.
    for name in ["c", "b"] + ["a", "b"] * 9:
        turn_and_come(run, name)
    run.do(("fresh", "b"))
    turn_and_come(run, "b")
    return run
