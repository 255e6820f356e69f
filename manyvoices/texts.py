"""Protocols and runs as texts."""

from manyvoices.errors import BadRun, BadText, NoText, VoiceError
from manyvoices.lines import Page
from manyvoices.protocols import Rule, Scheme
from manyvoices.runs import is_run
from manyvoices.standings import Standing, are_numbers, begun_in_all, going
from manyvoices.sums import AND, BOUND, MEMBERS, RESERVED, SAYS, read_condition, read_promise
from manyvoices.thresholds import threshold_of


def read(text):
    """Returns the protocol of a text."""
    page = Page(text)
    protocol = _read_on(_with_places, None, page.next_line())
    protocol = _read_on(_with_begins, protocol, page.next_line())
    protocol = _read_on(_with_faults, protocol, page.next_line())
    while not page.is_read():
        protocol = _read_on(_with_more, protocol, page.next_line())
    return protocol


def written(protocol):
    """Returns the text of a protocol."""
    lines = [
        f"places {' '.join(protocol.places())}",
        f"begins {' '.join(protocol.begins())}",
        f"faults {protocol.faults}",
    ]
    lines.extend([f"promise {_written_promise(promise)}" for promise in protocol.promise()])
    lines.extend([_written_rule(rule) for rule in protocol.rules()])
    return "\n".join(lines)


def run_text(protocol, run):
    """Returns the text of a run."""
    if not is_run(protocol, run):
        raise BadRun(run)
    n, t, f, begun, steps = run
    lines = [f"members {n} bound {t} faulty {f}"]
    lines.extend([f"begun {place} {many}" for place, many in begun])
    lines.extend([f"{word} {name} {many}" for word, name, many in steps])
    return "\n".join(lines)


def run_from(protocol, text):
    """Returns the run of a text."""
    page = Page(text)
    n, t, f = _read_numbers(protocol, page.next_line())
    begun = []
    for place in protocol.begins():
        line = page.next_line()
        begun.append((place, _read_begun(line, place)))
    if begun_in_all(begun) != going(protocol, n, f):
        raise BadText(line.number)
    now = Standing(protocol, (n, t, f), begun)
    steps = []
    while not page.is_read():
        steps.append(_read_step(now, page.next_line()))
    return n, t, f, begun, steps


def _read_on(step, protocol, line):
    """Returns the protocol behind a line, by a function that returns it of the protocol ahead of it and the line."""
    try:
        return step(protocol, line)
    except VoiceError:
        raise BadText(line.number) from None


def _with_places(_, line):
    line.expect("places")
    places = line.take_words()
    # the beginnings that are still to come are some of the places, so one will do for now
    return Scheme(places, places[:1], [])


def _with_begins(protocol, line):
    line.expect("begins")
    return Scheme(protocol.places(), line.take_words(), [])


def _with_faults(protocol, line):
    line.expect("faults")
    word = line.take_word()
    line.finish()
    return protocol.but(faults=word)


def _with_more(protocol, line):
    rules = protocol.rules()
    if not rules and line.skips("promise"):
        promise = read_promise(line)
        line.finish()
        return protocol.but(promise=[*protocol.promise(), promise])
    line.expect("rule")
    return protocol.but(rules=[*rules, _read_rule(line)])


def _read_rule(line):
    name = line.take_word()
    start = line.take_word()
    line.expect("to")
    end = line.take_word()
    when = []
    if line.skips("when"):
        when.append(read_condition(line))
        while line.skips(AND):
            when.append(read_condition(line))
    says = line.take_words() if line.skips(SAYS) else []
    line.finish()
    return Rule(name, start, end, when, says)


def _read_numbers(protocol, line):
    numbers = []
    for word in ("members", "bound", "faulty"):
        line.expect(word)
        numbers.append(line.take_integer())
    line.finish()
    n, t, f = numbers
    if not are_numbers(protocol, n, t, f):
        raise BadText(line.number)
    return n, t, f


def _read_begun(line, place):
    line.expect("begun")
    line.expect(place)
    many = line.take_integer()
    line.finish()
    return many


def _read_step(now, line):
    """Returns the step of a line, and does it in the standing now."""
    step = (line.take_word(), line.take_word(), line.take_integer())
    line.finish()
    if not now.can_do(step):
        raise BadText(line.number)
    now.do(step)
    return step


def _written_rule(rule):
    parts = [f"rule {rule.name} {rule.start} to {rule.end}"]
    if rule.when:
        parts.append(f"when {' and '.join([_written_condition(condition) for condition in rule.when])}")
    if rule.says:
        parts.append(f"says {' '.join(rule.says)}")
    return " ".join(parts)


def _written_condition(condition):
    threshold = threshold_of(condition)
    for sort in threshold.heard:
        if sort in RESERVED:
            raise NoText(sort)
    voices = " + ".join(threshold.heard)
    if len(threshold.heard) > 1:
        voices = f"({voices})"
    asked = _written_sum([(threshold.a, MEMBERS), (threshold.b, BOUND), (threshold.d, "")])
    return f"{_times(threshold.times, voices)} >= {asked}"


def _written_promise(promise):
    parts = [(integer, term[0]) for term, integer in promise.terms()]
    return f"{_written_sum(parts)} >= {promise.constant}"


def _written_sum(parts):
    """Returns the text of a sum of pairs of an integer and what it stands ahead of, "" for nothing."""
    tokens = []
    for integer, word in parts:
        if integer < 0:
            tokens.append("-")
        elif tokens and integer > 0:
            tokens.append("+")
        if integer != 0:
            tokens.append(_times(abs(integer), word))
    return " ".join(tokens) if tokens else "0"


def _times(many, word):
    """Returns the text of so many times a word, "" for the number alone."""
    if word == "":
        return f"{many}"
    return word if many == 1 else f"{many} {word}"
