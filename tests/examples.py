"""Protocols and objects that several tests look at."""

from manyvoices.forms import above, at, at_least, bound, heard, members, said
from manyvoices.protocols import Rule, Scheme


def echo(**changed):
    """The protocol of point 35."""
    return Scheme(
        ["old", "news", "sent", "done"],
        ["old", "news"],
        [
            Rule("tell", "news", "sent", says=["echo"]),
            Rule("join", "old", "sent", [above(heard("echo"), bound())], ["echo"]),
            Rule("end", "sent", "done", [at_least(heard("echo"), members() - bound())]),
        ],
        **changed,
    )


def ballot(faults):
    """A protocol with two sorts that one condition hears together, and a promise."""
    return Scheme(
        ["yea", "nay", "wait", "won", "lost"],
        ["yea", "nay"],
        [
            Rule("vote", "yea", "wait", says=["yes"]),
            Rule("deny", "nay", "wait", says=["no"]),
            Rule(
                "win",
                "wait",
                "won",
                [
                    at_least(heard("yes", "no"), members() - bound()),
                    above(2 * heard("yes"), members()),
                ],
                ["won"],
            ),
            Rule("lose", "wait", "lost", [above(2 * heard("no"), members())]),
        ],
        promise=[above(members(), 3 * bound())],
        faults=faults,
    )


def any_objects():
    """Objects of all kinds that the document calls any objects, new ones each time."""
    return [
        -1,
        0,
        1,
        10**40,
        True,
        False,
        None,
        "",
        "a",
        "echo",
        "Echo",
        "ninesigns",
        "a b",
        "\u00e9",
        [],
        (),
        {},
        [[]],
        ([],),
        [None],
        ["a", ["b"]],
        ("a", "b", 1),
        {"a": [1]},
        {("n",): 1},
        members(),
        members() - members() + 5,
        at("old"),
        at_least(said("echo"), 1),
        above(heard("echo"), bound()),
        Rule("tell", "news", "sent"),
        echo(),
        [echo(), members()],
    ]


def same_kinds(one, other):
    """Whether two values are equal and of the same kinds at every depth."""
    if type(one) is not type(other):
        return False
    if isinstance(one, (list, tuple)):
        return len(one) == len(other) and all(same_kinds(a, b) for a, b in zip(one, other))
    if isinstance(one, dict):
        return list(one) == list(other) and all(same_kinds(one[key], other[key]) for key in one)
    return one == other
