"""Points 3, 4 and 40 to 44: benches."""

import inspect
import random
import unittest

from manyvoices import benches
from manyvoices.benches import Bench
from manyvoices.errors import (
    BadCondition,
    BadDeed,
    BadFaults,
    BadIndex,
    BadPromise,
    BadRule,
    BadWish,
    BadWord,
    NameInUse,
    NoName,
    NoRule,
    VoiceError,
)
from manyvoices.forms import above, at, at_least, begun, bound, faulty, heard, members, said
from manyvoices.protocols import Rule, Scheme
from manyvoices.runs import is_calm, is_run, meets
from manyvoices.wishes import broken, thresholds
from tests import made, oracle
from tests.examples import any_objects, ballot, echo, same_kinds
from tests.test_wishes import ALIKE, IDLE, RESTED, SAFE, SOUND, raised

JOIN = [(0, 0, 0), (0, 0, 1), (0, 1, 0), (0, 2, 0), (0, 2, 1)]
WISHES = {"sound": SOUND, "alike": ALIKE, "idle": IDLE, "rested": RESTED}


def watching(protocol, wishes):
    bench = Bench(protocol)
    for name, wish in wishes.items():
        bench.watch(name, wish)
    return bench


def told(bench):
    """All that a bench tells of itself."""
    return bench.protocol, bench.watched(), bench.holds(), bench.deeds(), bench.mends()


def holding(protocol, wishes):
    """The dict that holds() should be."""
    return {name: broken(protocol, [wishes[name]]) == [] for name in sorted(wishes)}


def behind(protocol, deed):
    """The protocol behind a deed, by the words of point 41."""
    word, *rest = deed
    rules = protocol.rules()
    if word == "put":
        names = [rule.name for rule in rules]
        changed = [rest[0] if rule.name == rest[0].name else rule for rule in rules]
        return protocol.but(rules=changed if rest[0].name in names else [*rules, rest[0]])
    if word == "drop":
        return protocol.but(rules=[rule for rule in rules if rule.name != rest[0]])
    if word == "turn":
        name, index, condition = rest
        rule = protocol.rule(name)
        when = [*rule.when[:index], condition, *rule.when[index + 1 :]]
        changed = Rule(rule.name, rule.start, rule.end, when, rule.says)
        return protocol.but(rules=[changed if other.name == name else other for other in rules])
    return protocol.but(promise=rest[0]) if word == "promise" else protocol.but(faults=rest[0])


def done(bench, deed):
    return getattr(bench, deed[0])(*deed[1:])


def a_deed(source, protocol):
    """A deed that can be done, made up."""
    rules = protocol.rules()
    asking = [rule for rule in rules if rule.when]
    word = source.choice(["put", "drop", "turn", "promise", "under"])
    if word == "put" and rules:
        rule = source.choice(rules)
        when = source.choice([rule.when, rule.when[1:], [above(2 * heard("yes"), members())]])
        return ("put", Rule(source.choice([rule.name, "new"]), rule.start, rule.end, when))
    if word == "drop" and rules:
        return ("drop", source.choice(rules).name)
    if word == "turn" and asking:
        rule = source.choice(asking)
        sorts = oracle.parts(rule.when[0])[0]
        asked = source.choice([bound(), members() - bound(), 2 * bound()])
        return ("turn", rule.name, source.randrange(len(rule.when)), above(heard(*sorts), asked))
    if word == "promise":
        return ("promise", [at_least(members(), source.choice([1, 2, 3, 4]) * bound() + 1)][: source.randint(0, 1)])
    return ("under", source.choice(made.FAULTS))


class Watching(unittest.TestCase):
    def test_watch_and_unwatch(self):
        bench = Bench(echo())
        self.assertEqual((bench.watched(), bench.holds(), bench.deeds()), ({}, {}, []))
        self.assertIs(bench.watch("sound", SOUND), True)
        self.assertIs(bench.watch("idle", list(IDLE)), False)
        self.assertIs(bench.watch("alike", (ALIKE[0], tuple(ALIKE[1]))), False)
        self.assertTrue(same_kinds(bench.holds(), {"alike": False, "idle": False, "sound": True}))
        self.assertEqual(list(bench.holds()), ["alike", "idle", "sound"])
        watched = {"alike": ("calm", list(ALIKE[1])), "idle": ("never", list(IDLE[1])), "sound": ("never", SOUND[1])}
        self.assertTrue(same_kinds(bench.watched(), watched))
        self.assertEqual(list(bench.watched()), ["alike", "idle", "sound"])
        self.assertIsNone(bench.unwatch("idle"))
        self.assertEqual(bench.holds(), {"alike": False, "sound": True})
        raised(self, lambda: bench.unwatch("idle"), NoName, "name", "idle")
        self.assertIs(bench.watch("idle", SOUND), True)
        self.assertEqual(bench.watched()["idle"], SOUND)

    def test_wrong_names_and_wishes(self):
        bench = watching(echo(), {"sound": SOUND})
        before = told(bench)
        words = [thing for thing in any_objects() if thing in ("a", "echo")]
        for thing in any_objects():
            if thing not in words:
                raised(self, lambda: bench.watch(thing, None), BadWord, "word", thing)
            raised(self, lambda: bench.unwatch(thing), NoName, "name", thing)
            raised(self, lambda: bench.shown(thing), NoName, "name", thing)
            raised(self, lambda: bench.watch("sound", thing), NameInUse, "name", "sound")
            raised(self, lambda: bench.watch("other", thing), BadWish, "index", 0)
            if thing != at_least(said("echo"), 1):
                raised(self, lambda: bench.watch("other", ("never", [thing])), BadWish, "index", 0)
            self.assertEqual(told(bench), before)
        raised(self, lambda: bench.watch("other", ("calm", [at_least(at("nowhere"), 1)])), BadWish, "index", 0)
        raised(self, lambda: bench.watch("other", [SOUND]), BadWish, "index", 0)

    def test_shown(self):
        for protocol in (echo(), echo(promise=SAFE), echo(faults="stopping"), echo(faults="silent")):
            bench = watching(protocol, WISHES)
            for name, (word, goal) in WISHES.items():
                run = bench.shown(name)
                self.assertEqual(run is None, bench.holds()[name])
                if run is not None:
                    self.assertIs(type(run), tuple)
                    self.assertTrue(is_run(protocol, run) and meets(protocol, run, goal))
                    self.assertTrue(word == "never" or is_calm(protocol, run))

    def test_told_lists_and_dicts_are_new(self):
        goal = list(SOUND[1])
        bench = watching(echo(), {"sound": ("never", goal)})
        promise = list(SAFE)
        bench.promise(promise)
        before = told(bench)
        goal.append("more")
        promise.append("more")
        self.assertEqual(told(bench), before)
        for ask in (bench.watched, bench.holds, bench.deeds, bench.mends):
            first, second = ask(), ask()
            self.assertEqual(first, second)
            self.assertIsNot(first, second)
            first.clear()
            self.assertEqual(ask(), second)
        bench.watched()["sound"][1].append("more")
        bench.deeds()[0][1].append("more")
        news = bench.promise([])
        news.append("more")
        bench.undo().append("more")
        self.assertEqual(told(bench), before)


class Deeds(unittest.TestCase):
    def test_news(self):
        bench = watching(echo(), WISHES)
        self.assertTrue(same_kinds(bench.promise(tuple(SAFE)), [("alike", True)]))
        self.assertEqual(bench.protocol, echo(promise=SAFE))
        self.assertEqual(bench.promise(SAFE), [])
        tell, join, end = echo().rules()
        self.assertEqual(bench.drop("end"), [("idle", True)])
        self.assertEqual(bench.put(end), [("idle", False)])
        self.assertEqual(bench.protocol, echo(promise=SAFE))
        self.assertTrue(same_kinds(bench.turn("join", 0, at_least(heard("echo"), bound())), [("sound", False)]))
        self.assertEqual(bench.under("silent"), [])
        self.assertEqual(bench.protocol.faults, "silent")
        self.assertEqual(bench.drop("tell"), [("rested", False)])
        self.assertEqual(bench.promise([]), [])
        self.assertEqual(bench.holds(), holding(bench.protocol, WISHES))
        self.assertEqual(
            bench.deeds(),
            [
                ("promise", SAFE),
                ("promise", SAFE),
                ("drop", "end"),
                ("put", end),
                ("turn", "join", 0, at_least(heard("echo"), bound())),
                ("under", "silent"),
                ("drop", "tell"),
                ("promise", []),
            ],
        )
        self.assertTrue(all(type(deed) is tuple for deed in bench.deeds()))
        self.assertEqual([type(deed[1]) for deed in bench.deeds() if deed[0] == "promise"], [list] * 3)
        self.assertEqual(join, echo().rule("join"))
        self.assertEqual(tell, echo().rule("tell"))

    def test_put_stands_in_the_place_of_its_name_or_behind(self):
        bench = Bench(echo())
        again = Rule("join", "old", "sent", [], ["echo"])
        self.assertEqual(bench.put(again), [])
        self.assertEqual([rule.name for rule in bench.protocol.rules()], ["tell", "join", "end"])
        self.assertEqual(bench.protocol.rule("join"), again)
        bench.put(Rule("give", "news", "old"))
        self.assertEqual([rule.name for rule in bench.protocol.rules()], ["tell", "join", "end", "give"])
        bench.drop("tell")
        bench.put(Rule("tell", "news", "done"))
        self.assertEqual([rule.name for rule in bench.protocol.rules()], ["join", "end", "give", "tell"])

    def test_turn_changes_one_condition_of_several(self):
        for index in (0, 1):
            bench = Bench(ballot("lying"))
            asked = above(heard("no", "yes"), bound())
            bench.turn("win", index, asked)
            when = list(ballot("lying").rule("win").when)
            when[index] = asked
            self.assertEqual(bench.protocol.rule("win"), Rule("win", "wait", "won", when, ["won"]))
            self.assertEqual([rule.name for rule in bench.protocol.rules()], ["vote", "deny", "win", "lose"])

    def test_wrong_rules(self):
        bench = watching(echo(), WISHES)
        before = told(bench)
        for thing in any_objects():
            raised(self, lambda: bench.drop(thing), NoRule, "name", thing)
            if not isinstance(thing, Rule):
                raised(self, lambda: bench.put(thing), BadRule, "index", 3)
        raised(self, lambda: bench.put(Rule("give", "news", "nowhere")), BadRule, "index", 3)
        raised(self, lambda: bench.put(Rule("tell", "news", "nowhere")), BadRule, "index", 0)
        # back to its start, by a rule that stands behind it
        raised(self, lambda: bench.put(Rule("join", "sent", "news")), BadRule, "index", 1)
        raised(self, lambda: bench.put(Rule("tell", "done", "sent", [], ["echo"])), BadRule, "index", 2)
        raised(self, lambda: bench.put(Rule("end", "sent", "done", [], ["echo"])), BadRule, "index", 2)
        self.assertEqual(told(bench), before)
        for number in range(5):
            bench.put(Rule("r" + "abcde"[number], "news", "done"))
        raised(self, lambda: bench.put(Rule("ninth", "news", "done")), BadRule, "index", 8)
        raised(self, lambda: bench.put(None), BadRule, "index", 8)
        self.assertEqual(bench.put(Rule("re", "old", "done")), [("sound", False)])

    def test_wrong_turns(self):
        bench = watching(ballot("lying"), {})
        before = told(bench)
        fits = above(heard("no"), bound())
        for thing in any_objects():
            raised(self, lambda: bench.turn(thing, thing, thing), NoRule, "name", thing)
            raised(self, lambda: bench.turn("vote", thing, thing), BadIndex, "index", thing)
            if isinstance(thing, bool) or thing not in (0, 1):
                raised(self, lambda: bench.turn("win", thing, None), BadIndex, "index", thing)
            if thing != above(heard("echo"), bound()):
                raised(self, lambda: bench.turn("win", 1, thing), BadCondition, "index", 1)
        raised(self, lambda: bench.turn("lose", 1, fits), BadIndex, "index", 1)
        raised(self, lambda: bench.turn("lose", -1, fits), BadIndex, "index", -1)
        for unfit in (above(bound(), heard("no")), above(heard("no") + heard("yes"), bound()), above(said("no"), 0)):
            raised(self, lambda: bench.turn("lose", 0, unfit), BadCondition, "index", 0)
        self.assertEqual(told(bench), before)
        self.assertEqual(bench.turn("lose", 0, fits), [])

    def test_wrong_promises_and_faults(self):
        bench = watching(echo(), WISHES)
        before = told(bench)
        for thing in any_objects():
            if not isinstance(thing, (list, tuple)):
                raised(self, lambda: bench.promise(thing), BadPromise, "index", 0)
            raised(self, lambda: bench.promise([*SAFE, thing]), BadPromise, "index", 1)
            raised(self, lambda: bench.under(thing), BadFaults, "word", thing)
        raised(self, lambda: bench.promise([at_least(faulty(), 1)]), BadPromise, "index", 0)
        raised(self, lambda: bench.under("Lying"), BadFaults, "word", "Lying")
        self.assertEqual(told(bench), before)

    def test_by_name(self):
        bench = Bench(protocol=echo())
        bench.watch(name="sound", wish=SOUND)
        bench.put(rule=Rule("give", "news", "old"))
        bench.drop(name="give")
        bench.turn(name="join", index=0, condition=above(heard("echo"), 2 * bound()))
        bench.promise(promise=[])
        bench.under(word="stopping")
        self.assertEqual(bench.shown(name="sound"), None)
        self.assertEqual(bench.would(deeds=[("under", "lying")]), {"sound": True})
        self.assertIs(bench.trial(work=lambda same: same is bench), True)
        bench.unwatch(name="sound")
        self.assertEqual([deed[0] for deed in bench.deeds()], ["put", "drop", "turn", "promise", "under"])

    def test_the_interface(self):
        names = "watch unwatch watched holds shown put drop turn promise under undo again deeds would trial twin mends"
        self.assertEqual(inspect.getmodule(Bench), benches)
        for name in names.split():
            self.assertIn(name, vars(Bench))


class UndoAndAgain(unittest.TestCase):
    def test_where_there_is_none(self):
        bench = watching(echo(), WISHES)
        self.assertIsNone(bench.undo())
        self.assertIsNone(bench.again())

    def test_watching_between(self):
        bench = watching(echo(), {"alike": ALIKE})
        self.assertEqual(bench.promise(SAFE), [("alike", True)])
        bench.watch("idle", IDLE)
        self.assertEqual(bench.drop("end"), [("idle", True)])
        self.assertEqual(bench.undo(), [("idle", False)])
        bench.watch("sound", SOUND)
        bench.unwatch("idle")
        # watching is no deed: the same can be done again
        self.assertEqual(bench.again(), [])
        self.assertEqual(bench.deeds(), [("promise", SAFE), ("drop", "end")])
        bench.undo()
        bench.unwatch("alike")
        self.assertEqual(bench.undo(), [])
        self.assertEqual((bench.protocol, bench.holds()), (echo(), {"sound": True}))
        bench.watch("alike", ALIKE)
        self.assertEqual(bench.again(), [("alike", True)])
        self.assertEqual(bench.again(), [])
        self.assertIsNone(bench.again())

    def test_behind_a_new_deed_and_a_refused_one(self):
        bench = watching(echo(), WISHES)
        bench.promise(SAFE)
        bench.drop("end")
        bench.undo()
        raised(self, lambda: bench.drop("nobody"), NoRule, "name", "nobody")
        raised(self, lambda: bench.would([("drop", "nobody")]), NoRule, "name", "nobody")
        bench.would([("drop", "join")])
        self.assertEqual(bench.again(), [("idle", True)])
        bench.undo()
        # one that leaves all as it was is a deed
        self.assertEqual(bench.promise(SAFE), [])
        self.assertIsNone(bench.again())
        self.assertEqual(bench.deeds(), [("promise", SAFE), ("promise", SAFE)])
        self.assertEqual(bench.undo(), [])
        self.assertEqual(bench.deeds(), [("promise", SAFE)])

    def test_walks(self):
        source = random.Random(95)
        news_told = 0
        for number in range(14):
            protocol = made.vote(source)
            wishes = dict(zip("dcba", made.vote_wishes(source)))
            bench = watching(protocol, wishes)
            ahead, undone, deeds = [], [], []
            for _ in range(16):
                word = source.choice(["deed", "deed", "undo", "again"])
                before, was = bench.protocol, holding(bench.protocol, wishes)
                if word == "deed":
                    deed = a_deed(source, before)
                    try:
                        news = done(bench, deed)
                    except VoiceError:
                        self.assertEqual((bench.protocol, bench.deeds()), (before, deeds))
                        continue
                    ahead.append(before)
                    deeds.append(deed)
                    undone = []
                    self.assertEqual(bench.protocol, behind(before, deed))
                elif word == "undo":
                    news = bench.undo()
                    self.assertEqual(news is None, not deeds)
                    if deeds:
                        undone.append((deeds.pop(), before))
                        self.assertEqual(bench.protocol, ahead.pop())
                else:
                    news = bench.again()
                    self.assertEqual(news is None, not undone)
                    if undone:
                        deed, protocol_behind = undone.pop()
                        deeds.append(deed)
                        ahead.append(before)
                        self.assertEqual(bench.protocol, protocol_behind)
                now = holding(bench.protocol, wishes)
                self.assertTrue(same_kinds(bench.holds(), now))
                self.assertEqual(bench.deeds(), deeds)
                if news is not None:
                    self.assertEqual(news, [(name, now[name]) for name in now if now[name] != was[name]])
                    news_told += len(news)
        self.assertGreater(news_told, 30)


class WouldAndTrials(unittest.TestCase):
    def test_would(self):
        bench = watching(echo(), WISHES)
        bench.promise(SAFE)
        bench.drop("end")
        bench.undo()
        before = told(bench)
        deeds = [["drop", "join"], ("promise", ()), ("under", "silent"), ("put", echo().rule("join"))]
        protocol = bench.protocol
        self.assertTrue(same_kinds(bench.would([]), bench.holds()))
        for many in range(1, 5):
            protocol = behind(protocol, deeds[many - 1])
            would = bench.would(tuple(deeds[:many]))
            self.assertTrue(same_kinds(would, holding(protocol, WISHES)))
            self.assertEqual(list(would), sorted(WISHES))
        turn = ("turn", "join", 0, at_least(heard("echo"), bound()))
        self.assertEqual(bench.would([turn])["sound"], False)
        self.assertEqual(bench.would([turn, ["turn", "join", 0, echo().conditions()[0]]]), bench.holds())
        self.assertEqual(told(bench), before)
        self.assertEqual(bench.again(), [("idle", True)])

    def test_wrong_deeds(self):
        bench = watching(echo(), WISHES)
        before = told(bench)
        fits = ("drop", "nobody")
        unfit = [
            ("drop",),
            ("drop", "end", "join"),
            ("put",),
            ("turn", "join", 0),
            ("turn", "join", 0, None, None),
            ("promise",),
            ("under",),
            ("undo",),
            ("watch", "name", SOUND),
            ("Drop", "end"),
            (None, "end"),
            (["drop"], "end"),
            ({}, "end"),
            (echo(), "end"),
            (True, "end"),
            "drop",
            {"drop": "end"},
            *any_objects(),
        ]
        for thing in unfit:
            raised(self, lambda: bench.would([thing]), BadDeed, "index", 0)
            # ahead of all else, though the first cannot be done
            raised(self, lambda: bench.would([fits, ["put", None], thing, None]), BadDeed, "index", 2)
        for thing in any_objects():
            if not isinstance(thing, (list, tuple)):
                raised(self, lambda: bench.would(thing), BadDeed, "index", 0)
        raised(self, lambda: bench.would([("drop", "end"), ["drop", "end"], ("put", 1)]), NoRule, "name", "end")
        raised(self, lambda: bench.would([("drop", "end"), ("put", 1), fits]), BadRule, "index", 2)
        raised(self, lambda: bench.would([("put", 1)]), BadRule, "index", 3)
        raised(self, lambda: bench.would([("turn", "join", 1, None)]), BadIndex, "index", 1)
        raised(self, lambda: bench.would([("turn", "join", 0, None)]), BadCondition, "index", 0)
        raised(self, lambda: bench.would([("promise", None)]), BadPromise, "index", 0)
        raised(self, lambda: bench.would([("under", None)]), BadFaults, "word", None)
        self.assertEqual(told(bench), before)

    def test_trials(self):
        bench = watching(echo(), WISHES)
        bench.promise(SAFE)
        bench.drop("end")
        bench.undo()
        before = told(bench)
        list_made = [1]

        def work(same):
            self.assertIs(same, bench)
            same.undo()
            same.unwatch("idle")
            same.watch("other", SOUND)
            same.under("stopping")
            same.trial(lambda inner: inner.unwatch("other") or inner.drop("join"))
            self.assertEqual(same.watched()["other"], SOUND)
            self.assertEqual(same.deeds(), [("under", "stopping")])
            left = {name: wish for name, wish in WISHES.items() if name != "idle"}
            self.assertEqual(same.holds(), holding(echo(faults="stopping"), {"other": SOUND, **left}))
            return list_made

        self.assertIs(bench.trial(work), list_made)
        self.assertEqual(told(bench), before)
        for kind in (NoRule, ValueError, KeyError):

            def failing(same):
                work(same)
                same.watch("more", IDLE)
                if kind is NoRule:
                    same.drop("nobody")
                raise kind("told")

            with self.assertRaises(kind):
                bench.trial(failing)
            self.assertEqual(told(bench), before)
        self.assertEqual(bench.again(), [("idle", True)])

    def test_twins(self):
        bench = watching(echo(), WISHES)
        bench.promise(SAFE)
        bench.drop("end")
        bench.undo()
        twin = bench.twin()
        self.assertIs(type(twin), Bench)
        self.assertEqual(told(twin), told(bench))
        self.assertIsNone(twin.again())
        before = told(bench)
        twin.unwatch("idle")
        self.assertEqual(twin.undo(), [("alike", False)])
        twin.under("silent")
        self.assertEqual(told(bench), before)
        self.assertEqual(bench.again(), [("idle", True)])
        self.assertEqual(twin.deeds(), [("under", "silent")])
        self.assertEqual(list(twin.watched()), ["alike", "rested", "sound"])


class Mends(unittest.TestCase):
    def look(self, protocol, wishes):
        """Looks at the changes that are told, and returns them."""
        bench = watching(protocol, wishes)
        mends = bench.mends()
        expected = []
        for rule in protocol.rules():
            for index, condition in enumerate(rule.when):
                _, _, a, b, d = oracle.parts(condition)
                for triple in sorted([(a, b + c, e) for c in (-1, 1) for e in (0, 1)] + [(a, b, 1 - d)]):
                    box = [a, a, triple[1], triple[1]]
                    if not thresholds(protocol, rule.name, index, box, list(wishes.values()))[triple]:
                        expected.append((rule.name, index, triple))
        self.assertTrue(same_kinds(mends, expected), (mends, expected))
        return mends

    def test_the_echo(self):
        # nobody ends if more voices than members are waited for
        for protocol in (echo(), echo(promise=SAFE)):
            for wishes in ({"alike": ALIKE, "sound": SOUND}, {"idle": IDLE, "alike": ALIKE}):
                self.assertEqual(self.look(protocol, wishes), [("end", 0, (1, 0, 1))])
        # who joins by as many voices as can lie
        loose = behind(echo(), ("turn", "join", 0, at_least(heard("echo"), bound())))
        mends = self.look(loose, {"sound": SOUND})
        self.assertEqual([part for part in mends if part[0] == "join"], [("join", 0, (0, 1, 1)), ("join", 0, (0, 2, 1))])

    def test_where_nothing_is_watched(self):
        mends = self.look(echo(), {})
        end = [(1, -2, 0), (1, -2, 1), (1, -1, 1), (1, 0, 0), (1, 0, 1)]
        self.assertEqual(mends, [("join", 0, part) for part in JOIN] + [("end", 0, part) for part in end])
        self.assertEqual(Bench(Scheme(["a"], ["a"], [])).mends(), [])

    def test_made_up(self):
        source = random.Random(96)
        some = 0
        for number in range(14):
            protocol = made.vote(source)
            wishes = dict(zip("ab", made.vote_wishes(source)[:2]))
            mends = self.look(protocol, wishes)
            some += 0 < len(mends) < 5 * sum(len(rule.when) for rule in protocol.rules())
        self.assertGreater(some, 2)

    def test_behind_deeds(self):
        bench = watching(echo(), {"alike": ALIKE, "sound": SOUND})
        first = bench.mends()
        bench.drop("end")
        self.assertEqual(bench.mends(), [("join", 0, part) for part in JOIN])
        bench.undo()
        self.assertEqual(bench.mends(), first)
        bench.watch("rested", ("calm", [at_least(begun("old"), 1)]))
        self.assertEqual(bench.mends(), [])


if __name__ == "__main__":
    unittest.main()
