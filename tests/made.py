"""Protocols, goals and wishes made up by a seeded source, so that each run of the tests makes the same ones."""

from manyvoices.errors import VoiceError
from manyvoices.forms import above, at, at_least, begun, bound, faulty, heard, members, said
from manyvoices.protocols import Rule, Scheme

FAULTS = ("lying", "silent", "stopping")
PLACES = ["a", "b", "c", "d", "e", "f", "g"]
SORTS = ["u", "v", "w", "x"]
MOST_RULES_OF_A_WAY = 4


def protocol(source, *, places, rules, conditions, faults=None, promises=2, sorts=4):
    """A protocol with so many places and rules and conditions, or fewer where they do not come about."""
    names = PLACES[:places]
    pool = [condition(source, SORTS[:sorts]) for _ in range(conditions)]
    begins = source.sample(names, source.randint(1, min(3, places)))
    made = Scheme(names, begins, [])
    for _ in range(20 * rules if places > 1 else 0):
        if len(made.rules()) < rules:
            try:
                longer = made.but(rules=[*made.rules(), rule(source, names, pool, sorts, len(made.rules()))])
            except VoiceError:
                continue
            made = longer if longest_way(longer) <= MOST_RULES_OF_A_WAY else made
    promise = [one_promise(source) for _ in range(source.randint(0, promises))]
    return made.but(promise=promise, faults=faults or source.choice(FAULTS))


def rule(source, names, pool, sorts, number):
    start, end = sorted(source.sample(names, 2))
    asks = 0 if number < 2 else source.choice([0, 1, 1, 1, 2])
    when = source.sample(pool, min(len(pool), asks))
    says = source.sample(SORTS[:sorts], min(sorts, source.choice([0, 1, 1, 2])))
    return Rule("r" + PLACES[number] if number < 7 else "last", start, end, when, says)


def longest_way(made):
    """How many rules the longest way has."""
    length = {place: 0 for place in made.places()}
    for _ in made.rules():
        for one in made.rules():
            length[one.end] = max(length[one.end], length[one.start] + 1)
    return max(length.values())


def condition(source, sorts):
    some = source.sample(sorts, min(len(sorts), source.choice([1, 1, 1, 2])))
    usual = [
        above(heard(*some), bound()),
        at_least(heard(*some), members() - bound()),
        above(2 * heard(*some), members()),
        above(2 * heard(*some), members() + bound()),
        above(heard(*some), 2 * bound()),
    ]
    a, b = source.choice([0, 0, 1, 1, 2, -1]), source.choice([-3, -2, -1, 0, 0, 1, 1, 2])
    form = a * members() + b * bound() + source.choice([0, 1])
    unusual = at_least(source.choice([1, 1, 1, 2, 3]) * heard(*some), form)
    return source.choice([*usual, unusual, unusual])


def one_promise(source):
    return at_least(members(), source.choice([1, 2, 2, 3]) * bound() + source.choice([0, 1]))


def comparison(source, made):
    """A comparison that may stand in a goal for a protocol."""
    place = source.choice(made.places())
    usual = [at_least(at(place), 1)] * 3 + [at_least(0, begun(place)), above(members() - faulty(), at(place))]
    if source.random() < 0.5:
        return source.choice(usual)
    terms = [members(), bound(), faulty()]
    terms += [at(place) for place in made.places()] * 2
    terms += [begun(place) for place in made.places()]
    terms += [said(sort) for sort in SORTS]
    while True:
        form = sum(source.choice([-2, -1, -1, 1, 1, 2, 3]) * source.choice(terms) for _ in range(source.randint(1, 3)))
        try:
            return at_least(form, source.choice([0, 1, 1]))
        except VoiceError:
            continue


def goal(source, made, most=4):
    return [comparison(source, made) for _ in range(source.randint(0, most))]


def wishes(source, made, many):
    return [(source.choice(["never", "calm"]), goal(source, made, 3)) for _ in range(many)]


def vote(source, faults=None):
    """A protocol in which members say yes or no, and win or lose by what they hear: most depends on the faults."""
    asks = [
        above(heard("yes"), source.choice([0, 1, 2]) * bound()),
        above(2 * heard(source.choice(["yes", "won"])), members() + source.choice([0, 1]) * bound()),
        at_least(heard("no"), members() - source.choice([1, 2]) * bound()),
    ]
    rules = [
        Rule("vote", "yea", "wait", says=["yes"]),
        Rule("deny", "nay", "wait", says=["no"]),
        Rule("follow", "nay", "wait", source.sample(asks, 1), ["yes"]),
        Rule("win", "wait", "won", source.sample(asks[:2], source.randint(1, 2)), source.sample(["won"], 1)),
        Rule("lose", "wait", "lost", [asks[2]]),
    ]
    rules.remove(source.choice([rules[1], rules[2], rules[2]]))
    promise = [above(members(), source.choice([2, 3, 4]) * bound())][: source.randint(0, 1)]
    places = ["yea", "nay", "wait", "won", "lost"]
    return Scheme(places, ["yea", "nay"], rules, promise=promise, faults=faults or source.choice(FAULTS))


def vote_wishes(source):
    """Wishes for such a protocol that hold under some faults and are broken under others."""
    some_win, some_lose = at_least(at("won"), 1), at_least(at("lost"), 1)
    parts = [
        [some_win, some_lose],
        [some_win, at_least(0, begun("yea"))],
        [some_lose, at_least(0, begun("nay"))],
        [some_win, above(members() - faulty(), at("won"))],
        [at_least(at("wait"), 1), above(members(), 3 * bound())],
        [some_win, at_least(at("nay"), 1)],
        [some_lose, at_least(0, said("no"))],
    ]
    return [(source.choice(["never", "calm"]), goal) for goal in source.sample(parts, 4)]
