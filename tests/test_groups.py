"""Points 3, 4 and 31 to 34: groups that go on deed by deed."""

import inspect
import random
import unittest

from manyvoices import groups
from manyvoices.errors import (
    BadBegun,
    BadGoal,
    BadGroup,
    BadMany,
    NoPlace,
    NoRule,
    NoSort,
    NotHeard,
    NotStopping,
    NotThere,
    TooMany,
)
from manyvoices.forms import above, at, at_least, begun, bound, faulty, heard, members, said
from manyvoices.groups import Group
from manyvoices.protocols import Rule, Scheme
from manyvoices.runs import is_calm, is_run, meets, standing
from tests import made, oracle, search
from tests.examples import any_objects, ballot, echo, same_kinds
from tests.test_wishes import raised


def four(**changed):
    """Four members of the echo, one of them faulty."""
    protocol = echo(**changed)
    begins = [("old", 2), ("news", 2 if protocol.faults == "stopping" else 1)]
    return Group(protocol, 4, 1, 1, begins)


def told(group):
    """All that a group tells of itself."""
    protocol = group.protocol
    return (
        group.run(),
        [group.at(place) for place in protocol.places()],
        [group.said(sort) for sort in protocol.sorts()],
        group.stopped(),
        group.may(),
        group.must(),
        group.is_calm(),
    )


def told_anew(protocol, run):
    """The same, counted from the run."""
    now = oracle.told(protocol, run)
    some = [rule for rule in protocol.rules() if now["at"][rule.start] > 0]
    may, must = [
        [rule.name for rule in some if all(oracle.met(protocol, run, asked, surely) for asked in rule.when)]
        for surely in (False, True)
    ]
    return run, list(now["at"].values()), list(now["said"].values()), now["stopped"], may, must, not must


def counted(protocol, run):
    """The standing behind a run as tests.search has it."""
    now = {("n",): run[0], ("t",): run[1], ("f",): run[2]}
    behind = standing(protocol, run)
    now["stopped"] = behind["stopped"]
    for key in ("at", "begun", "said", "cut"):
        now.update({(key, word): many for word, many in behind[key].items()})
    return now


def all_that_can_come(protocol, run):
    """All standings that can come behind a run, member by member."""
    first = counted(protocol, run)
    found = {tuple(sorted(map(str, first.items()))): first}
    todo = [first]
    while todo:
        for after in search.followers(protocol, todo.pop()):
            key = tuple(sorted(map(str, after.items())))
            if key not in found:
                found[key] = after
                todo.append(after)
    return list(found.values())


def possible_deeds(group, most):
    """All deeds of at most so many members that the words of point 32 allow."""
    protocol, run = group.protocol, group.run()
    words = {"go": "take", "cut": "cut", "stop": "stop"}
    steps = [step for step in oracle.steps(protocol, most) if oracle.may_follow(protocol, run, step)]
    return [(words[word], name, many) for word, name, many in steps]


def a_group(source, protocol, most=4):
    """A group of few members, perhaps some deeds on, or None if no numbers keep the promises."""
    triples = search.numbers(protocol, most)
    if not triples:
        return None
    n, t, f = source.choice([told for told in triples if told[0] > 2 and told[2] > 0] or triples)
    going = n if protocol.faults == "stopping" else n - f
    group = Group(protocol, n, t, f, source.choice(oracle.spread(protocol.begins(), going)))
    for _ in range(source.randint(0, 3)):
        deeds = possible_deeds(group, 2)
        if deeds:
            word, name, many = source.choice(deeds)
            getattr(group, word)(name, many)
    return group


def protocols(source, many):
    for number in range(many):
        if number % 3 == 0:
            yield made.vote(source)
        else:
            yield made.protocol(source, places=source.randint(2, 5), rules=source.randint(2, 6), conditions=2)


class Made(unittest.TestCase):
    def test_as_it_begins(self):
        group = four()
        self.assertEqual(group.protocol, echo())
        self.assertTrue(same_kinds(group.run(), (4, 1, 1, [("old", 2), ("news", 1)], [])))
        self.assertEqual(told(group), told_anew(echo(), group.run()))
        self.assertEqual([group.at(place) for place in echo().places()], [2, 1, 0, 0])

    def test_places_that_lack_and_their_order(self):
        for begins in ([("news", 1), ("old", 2)], (["old", 2], ["news", 1]), [("old", 2), ["news", 1]]):
            self.assertEqual(Group(echo(), 4, 1, 1, begins).run(), (4, 1, 1, [("old", 2), ("news", 1)], []))
        for begins in ([("news", 3)], [("news", 3), ("old", 0)], (("old", 0), ("news", 3))):
            self.assertEqual(Group(echo(), 4, 1, 1, begins).run(), (4, 1, 1, [("old", 0), ("news", 3)], []))
        stopping = Group(echo(faults="stopping"), 4, 1, 1, [("old", 4)])
        self.assertEqual(stopping.run(), (4, 1, 1, [("old", 4), ("news", 0)], []))
        silent = Group(echo(faults="silent"), 4, 2, 1, [("old", 3)])
        self.assertEqual(silent.run(), (4, 2, 1, [("old", 3), ("news", 0)], []))

    def test_no_numbers(self):
        for thing in any_objects():
            if isinstance(thing, int) and not isinstance(thing, bool) and thing >= 0:
                continue
            raised(self, lambda: Group(echo(), thing, thing, None, thing), BadMany, "many", thing)
            raised(self, lambda: Group(echo(), 4, thing, None, thing), BadMany, "many", thing)
            raised(self, lambda: Group(echo(), 0, 5, thing, thing), BadMany, "many", thing)

    def test_no_group(self):
        for n, t, f in [(4, 1, 2), (4, 5, 1), (4, 4, 4), (0, 0, 0), (1, 1, 1), (10**40, 0, 1)]:
            self.assertRaises(BadGroup, lambda: Group(echo(), n, t, f, None))
            self.assertRaises(BadGroup, lambda: Group(echo(faults="stopping"), n, t, f, [("old", n)]))
        safe = echo(promise=[above(members(), 3 * bound())])
        self.assertRaises(BadGroup, lambda: Group(safe, 3, 1, 0, [("old", 3)]))
        self.assertEqual(Group(safe, 4, 1, 0, [("old", 4)]).at("old"), 4)
        for faults in made.FAULTS:
            never = echo(promise=[above(bound(), members())], faults=faults)
            for n, t, f in [(4, 1, 1), (1, 0, 0), (3, 3, 2)]:
                self.assertRaises(BadGroup, lambda: Group(never, n, t, f, [("old", n)]))

    def test_no_beginnings(self):
        wrong = [thing for thing in any_objects() if thing not in ([], ())]
        wrong += [
            [],
            [("old", 3), ("news", 1)],
            [("old", 2)],
            [("old", 1), ("old", 2)],
            [("sent", 3)],
            [("old", 3), ("sent", 0)],
            [("old", 4), ("news", -1)],
            [("old", 2), ("news", True)],
            [("old", 3), ("news", False)],
            [("old", 3), ("news", None)],
            [("old", "3")],
            [("old", 3, 0)],
            [("old",)],
            ["old", 3],
            [["old"], 3],
            [(["old"], 3)],
            [("old", [3])],
            {"old": 3},
            [{"old": 3}],
        ]
        for thing in wrong:
            raised(self, lambda: Group(echo(), 4, 1, 1, thing), BadBegun, "thing", thing)
        # all members begin where the faulty ones stop
        self.assertEqual(Group(echo(faults="stopping"), 4, 1, 1, [("old", 3), ("news", 1)]).at("old"), 3)
        raised(self, lambda: Group(echo(faults="stopping"), 4, 1, 1, [("old", 3)]), BadBegun, "thing", [("old", 3)])

    def test_arguments_are_copied(self):
        begins = [["old", 2], ["news", 1]]
        group = Group(echo(), 4, 1, 1, begins)
        group.take("tell")
        self.assertEqual(begins, [["old", 2], ["news", 1]])
        begins[0][1] = 7
        begins.pop()
        self.assertEqual(group.run()[3], [("old", 2), ("news", 1)])

    def test_by_name_and_by_position(self):
        group = Group(protocol=echo(faults="stopping"), n=4, t=2, f=2, begun=[("news", 4)])
        group.take(rule="tell", many=2)
        group.cut(rule="tell", many=1)
        group.stop(place="sent", many=1)
        self.assertEqual((group.at(place="sent"), group.said(sort="echo"), group.stopped()), (1, 2, 2))
        self.assertIs(group.can(goal=[at_least(at("done"), 1)], calm=False), True)
        self.assertEqual(group.trial(work=lambda same: same is group), True)
        self.assertRaises(TypeError, lambda: group.can([], True))

    def test_the_interface(self):
        names = "take cut stop undo again at said stopped may must is_calm run can trial twin".split()
        self.assertEqual(inspect.getmodule(Group), groups)
        for name in names:
            self.assertIn(name, vars(Group))


class Deeds(unittest.TestCase):
    def test_lying_step_by_step(self):
        group = four()
        self.assertEqual((group.may(), group.must(), group.is_calm()), (["tell"], ["tell"], False))
        self.assertIsNone(group.take("tell"))
        self.assertEqual((group.at("news"), group.at("sent"), group.said("echo")), (0, 1, 1))
        # one voice and a lie are more than one
        self.assertEqual((group.may(), group.must(), group.is_calm()), (["join"], [], True))
        group.take("join", 2)
        self.assertEqual((group.may(), group.must(), group.is_calm()), (["end"], ["end"], False))
        group.take("end", 3)
        self.assertEqual((group.may(), group.must(), group.is_calm(), group.stopped()), ([], [], True, 0))
        steps = [("go", "tell", 1), ("go", "join", 2), ("go", "end", 3)]
        self.assertTrue(same_kinds(group.run(), (4, 1, 1, [("old", 2), ("news", 1)], steps)))
        self.assertTrue(is_run(echo(), group.run()))

    def test_stopping_step_by_step(self):
        protocol = echo(faults="stopping")
        group = Group(protocol, 5, 2, 2, [("old", 2), ("news", 3)])
        self.assertIsNone(group.cut("tell"))
        self.assertEqual((group.at("news"), group.at("sent"), group.said("echo"), group.stopped()), (2, 0, 0, 1))
        group.take("tell", 2)
        # two voices and one that some may hear
        self.assertEqual((group.may(), group.must()), (["join", "end"], []))
        self.assertIsNone(group.stop("sent"))
        self.assertEqual((group.at("sent"), group.stopped()), (1, 2))
        group.take("join", 2)
        self.assertEqual((group.may(), group.must()), (["end"], ["end"]))
        steps = [("cut", "tell", 1), ("go", "tell", 2), ("stop", "sent", 1), ("go", "join", 2)]
        self.assertTrue(same_kinds(group.run(), (5, 2, 2, [("old", 2), ("news", 3)], steps)))
        self.assertTrue(is_run(protocol, group.run()))

    def test_all_rules_of_a_protocol_in_its_order(self):
        rules = [Rule("late", "b", "c"), Rule("early", "a", "b"), Rule("other", "a", "c", [above(heard("x"), 0)])]
        group = Group(Scheme(["a", "b", "c"], ["b", "a"], rules), 2, 0, 0, [("a", 1), ("b", 1)])
        self.assertEqual((group.may(), group.must()), (["late", "early"], ["late", "early"]))
        self.assertEqual(group.run()[3], [("b", 1), ("a", 1)])

    def test_nobody_stops_under_other_faults(self):
        for faults in ("lying", "silent"):
            group = four(faults=faults)
            for thing in [*any_objects(), "tell", "old"]:
                self.assertRaises(NotStopping, lambda: group.cut(thing, thing))
                self.assertRaises(NotStopping, lambda: group.stop(thing, thing))
            self.assertEqual(group.run()[4], [])

    def test_no_rules_and_no_places(self):
        group = four(faults="stopping")
        for thing in [*any_objects(), "old", "echo"]:
            raised(self, lambda: group.take(thing, thing), NoRule, "name", thing)
            raised(self, lambda: group.cut(thing, thing), NoRule, "name", thing)
        for thing in [*any_objects(), "tell", "echo"]:
            raised(self, lambda: group.stop(thing, thing), NoPlace, "place", thing)
            raised(self, lambda: group.at(thing), NoPlace, "place", thing)
        for thing in [*any_objects(), "old", "tell"]:
            if thing != "echo":
                raised(self, lambda: group.said(thing), NoSort, "word", thing)

    def test_no_numbers(self):
        group = four(faults="stopping")
        for thing in any_objects():
            if isinstance(thing, int) and not isinstance(thing, bool) and thing >= 1:
                continue
            # nobody stands at the start of the last rule, nor is enough heard
            for name in ("tell", "end"):
                raised(self, lambda: group.take(name, thing), BadMany, "many", thing)
                raised(self, lambda: group.cut(name, thing), BadMany, "many", thing)
            raised(self, lambda: group.stop("done", thing), BadMany, "many", thing)

    def test_not_there_not_heard_too_many(self):
        group = four(faults="stopping")
        for deed in (group.take, group.cut):
            raised(self, lambda: deed("tell", 3), NotThere, "place", "news")
            raised(self, lambda: deed("end"), NotThere, "place", "sent")
            raised(self, lambda: deed("join", 10**40), NotThere, "place", "old")
            raised(self, lambda: deed("join"), NotHeard, "index", 0)
            raised(self, lambda: deed("join", 2), NotHeard, "index", 0)
        raised(self, lambda: group.stop("old", 3), NotThere, "place", "old")
        raised(self, lambda: group.stop("old", 2), TooMany, "many", 2)
        raised(self, lambda: group.cut("tell", 2), TooMany, "many", 2)
        group.stop("old")
        raised(self, lambda: group.stop("old"), TooMany, "many", 1)
        raised(self, lambda: group.cut("tell"), TooMany, "many", 1)
        group.take("tell", 2)
        self.assertEqual(group.run()[4], [("stop", "old", 1), ("go", "tell", 2)])

    def test_the_first_condition_that_is_not_met(self):
        asks = [at_least(heard("x"), 0 * members() + 1), above(2 * heard("x"), members()), above(heard("y"), 0)]
        rules = [Rule("say", "a", "b", [], ["x"]), Rule("go", "b", "c", asks), Rule("hear", "a", "c", asks[::-1])]
        group = Group(Scheme(["a", "b", "c"], ["a", "b"], rules, faults="silent"), 3, 0, 0, [("a", 2), ("b", 1)])
        raised(self, lambda: group.take("go"), NotHeard, "index", 0)
        raised(self, lambda: group.take("hear"), NotHeard, "index", 0)
        group.take("say")
        raised(self, lambda: group.take("go"), NotHeard, "index", 1)
        raised(self, lambda: group.take("hear"), NotHeard, "index", 0)
        group.take("say")
        raised(self, lambda: group.take("go"), NotHeard, "index", 2)

    def test_what_is_refused_changes_nothing(self):
        source = random.Random(91)
        refused = 0
        for protocol in protocols(source, 30):
            group = a_group(source, protocol)
            if group is None:
                continue
            group.undo()
            before = told(group)
            possible = possible_deeds(group, 5)
            for word, name, many in [
                (word, name, many)
                for word in ("take", "cut", "stop")
                for name in [*[rule.name for rule in protocol.rules()], *protocol.places(), "nobody"]
                for many in (0, 1, 5)
            ]:
                if (word, name, many) not in possible:
                    with self.assertRaises((NotStopping, NoRule, NoPlace, BadMany, NotThere, NotHeard, TooMany)):
                        getattr(group, word)(name, many)
                    refused += 1
                    self.assertEqual(told(group), before)
            again = group.twin()
            self.assertIs(again.again(), False)
        self.assertGreater(refused, 300)

    def test_walks(self):
        # what a group tells behind each deed is what its run tells, and what can be undone is what was done
        source = random.Random(92)
        many = {"take": 0, "cut": 0, "stop": 0, "undo": 0, "again": 0}
        for protocol in protocols(source, 60):
            group = a_group(source, protocol, 5)
            if group is None:
                continue
            first, done, undone = group.run()[:4], list(group.run()[4]), []
            for _ in range(12):
                deeds = [*possible_deeds(group, 3), ("undo",), ("again",)]
                word, *rest = source.choice(deeds)
                result = getattr(group, word)(*rest)
                if word == "undo":
                    self.assertIs(result, bool(done))
                    undone.extend([done.pop()] if done else [])
                elif word == "again":
                    self.assertIs(result, bool(undone))
                    done.extend([undone.pop()] if undone else [])
                else:
                    self.assertIsNone(result)
                    done.append(({"take": "go"}.get(word, word), *rest))
                    undone = []
                many[word] += word not in ("undo", "again") or result
                run = (*first, done)
                self.assertTrue(is_run(protocol, run))
                self.assertTrue(same_kinds(told(group), told_anew(protocol, run)))
                self.assertEqual(group.is_calm(), is_calm(protocol, run))
        self.assertGreater(min(many.values()), 10, many)

    def test_forty_digits(self):
        great = 10**39
        group = Group(echo(), 4 * great, great, great, [("old", 2 * great), ("news", great)])
        raised(self, lambda: group.take("join"), NotHeard, "index", 0)
        group.take("tell")
        group.take("join")
        group.undo()
        group.take("tell", great - 1)
        self.assertEqual((group.at("sent"), group.said("echo"), group.may()), (great, great, ["join"]))
        raised(self, lambda: group.take("join", 2 * great + 1), NotThere, "place", "old")
        group.take("join", 2 * great)
        self.assertEqual(group.must(), ["end"])
        group.take("end", 3 * great)
        self.assertEqual((group.at("done"), group.is_calm(), is_run(echo(), group.run())), (3 * great, True, True))
        raised(self, lambda: group.can([]), BadMany, "many", 4 * great)
        stopping = Group(echo(faults="stopping"), 10**40 - 1, great, great, [("news", 10**40 - 1)])
        raised(self, lambda: stopping.stop("news", great + 1), TooMany, "many", great + 1)
        stopping.stop("news", great)
        self.assertEqual((stopping.at("news"), stopping.stopped()), (9 * great - 1, great))


class UndoAndAgain(unittest.TestCase):
    def test_where_there_is_none(self):
        group = four()
        before = told(group)
        self.assertIs(group.undo(), False)
        self.assertIs(group.again(), False)
        self.assertEqual(told(group), before)

    def test_one_behind_another(self):
        group = four(faults="stopping")
        standings = [told(group)]
        for deed in (lambda: group.cut("tell"), lambda: group.take("tell"), lambda: group.take("join", 2)):
            deed()
            standings.append(told(group))
        for back in standings[-2::-1]:
            self.assertIs(group.undo(), True)
            self.assertEqual(told(group), back)
        self.assertIs(group.undo(), False)
        for forth in standings[1:]:
            self.assertIs(group.again(), True)
            self.assertEqual(told(group), forth)
        self.assertIs(group.again(), False)

    def test_behind_a_new_deed_and_a_refused_one(self):
        group = four()
        group.take("tell")
        group.take("join")
        group.undo()
        raised(self, lambda: group.take("tell"), NotThere, "place", "news")
        raised(self, lambda: group.take("nobody"), NoRule, "name", "nobody")
        self.assertIs(group.again(), True)
        self.assertEqual(group.run()[4], [("go", "tell", 1), ("go", "join", 1)])
        group.undo()
        group.take("join", 2)
        self.assertIs(group.again(), False)
        self.assertEqual(group.run()[4], [("go", "tell", 1), ("go", "join", 2)])
        # asking is no deed
        group.undo()
        told(group)
        group.can([])
        self.assertIs(group.again(), True)


class Can(unittest.TestCase):
    def test_the_echo(self):
        group = four()
        ended = [at_least(at("done"), members() - faulty())]
        old = [at_least(at("old"), 1), at_least(at("done"), 1)]
        self.assertIs(group.can(ended), True)
        self.assertIs(group.can(ended, calm=True), True)
        self.assertIs(group.can(old, calm=True), False)
        # a lie and two voices are enough for one to end while another one is still where it was
        self.assertIs(group.can(old), True)
        self.assertIs(group.can([], calm=True), True)
        group.take("tell")
        self.assertIs(group.can([at_least(at("news"), 1)]), False)
        self.assertIs(group.can([at_least(0, said("echo"))]), False)
        # as it is: perhaps nothing is done
        self.assertIs(group.can([at_least(at("old"), 1), at_least(at("sent"), 1)], calm=True), True)
        self.assertIs(group.can([at_least(0, at("sent")), at_least(0, at("done"))], calm=True), False)

    def test_against_a_search(self):
        source = random.Random(93)
        found = {True: 0, False: 0}
        for protocol in protocols(source, 60):
            group = a_group(source, protocol)
            if group is None:
                continue
            run = group.run()
            small = all_that_can_come(protocol, run)
            calm = [now for now in small if search.is_calm(protocol, now)]
            for number in range(8):
                goal = made.goal(source, protocol, 3)
                if number % 2:
                    # one that is met by a standing of these, or just missed
                    now = source.choice(small)
                    goal = [at_least(at(place), 1) for place in protocol.places() if now[("at", place)]][:3]
                    goal.append(source.choice([above(bound(), faulty()), at_least(members(), faulty())]))
                for is_asked, standings in ((False, small), (True, calm)):
                    answer = group.can(goal, calm=is_asked)
                    self.assertIs(answer, any(search.meets(now, goal) for now in standings))
                    found[answer] += 1
            self.assertEqual(group.run(), run)
        self.assertGreater(min(found.values()), 150, found)

    def test_goals_of_all_kinds_of_terms(self):
        protocol = echo(faults="stopping")
        group = Group(protocol, 3, 2, 1, [("old", 1), ("news", 2)])
        small = all_that_can_come(protocol, group.run())
        forms = [said("echo"), said("noone"), at("done"), begun("news"), begun("done"), faulty(), bound(), members()]
        for one in forms:
            for other in forms:
                if one != other:
                    for goal in ([above(one, other)], [above(one, 2 * other)], [at_least(one, other), above(one, 0)]):
                        answer = group.can(goal)
                        self.assertIs(answer, any(search.meets(now, goal) for now in small))

    def test_a_cut_is_needed(self):
        # one voice in full and one that only some hear are enough for one to end, but the others do not hear it surely
        group = Group(echo(faults="stopping"), 3, 1, 1, [("old", 1), ("news", 2)])
        goal = [at_least(at("done"), 1), at_least(bound(), said("echo"))]
        self.assertIs(group.can(goal), True)
        self.assertIs(group.can([*goal, at_least(at("old"), 1)], calm=True), True)
        group.stop("old")
        self.assertIs(group.can(goal), False)

    def test_single_standings(self):
        # goals that tell just how many stand somewhere, and how many voices there are
        source = random.Random(98)
        found = {True: 0, False: 0}
        for number in range(40):
            protocol = made.vote(source, made.FAULTS[number % 3]) if number % 2 else echo(faults=made.FAULTS[number % 3])
            group = a_group(source, protocol)
            if group is None:
                continue
            small = all_that_can_come(protocol, group.run())
            calm = [now for now in small if search.is_calm(protocol, now)]
            forms = [(("at", place), at(place)) for place in protocol.places()]
            forms += [(("said", sort), said(sort)) for sort in protocol.sorts()] * 3
            for _ in range(12):
                now, goal = source.choice(small), []
                for term, form in source.sample(forms, 2):
                    parted = now[("n",)] * form - max(0, now[term] + source.choice([0, 0, 0, 1, -1])) * members()
                    goal.extend([at_least(parted, 0), at_least(0, parted)])
                for is_asked, standings in ((False, small), (True, calm)):
                    answer = group.can(goal, calm=is_asked)
                    self.assertIs(answer, any(search.meets(one, goal) for one in standings))
                    found[answer] += 1
        self.assertGreater(min(found.values()), 100, found)

    def test_wrong_goals_and_too_many_members(self):
        small, great = four(), Group(echo(), 5, 1, 1, [("old", 4)])
        fits = at_least(at("old"), 1)
        for group in (small, great):
            for calm in (False, True):
                for thing in any_objects():
                    if not isinstance(thing, (list, tuple)):
                        raised(self, lambda: group.can(thing, calm=calm), BadGoal, "index", 0)
                    if thing != at_least(said("echo"), 1):
                        raised(self, lambda: group.can([fits, thing, None], calm=calm), BadGoal, "index", 1)
                raised(self, lambda: group.can((fits, at_least(at("no"), 1)), calm=calm), BadGoal, "index", 1)
        raised(self, lambda: great.can([fits]), BadMany, "many", 5)
        raised(self, lambda: great.can([], calm=True), BadMany, "many", 5)
        self.assertIs(small.can((fits,)), True)

    def test_many_ways(self):
        # as many places, rules, sorts and conditions as there may be
        asks = [above(heard("u"), 0), above(heard("v"), 0), above(heard("w"), 0), above(heard("x"), 0)]
        rules = []
        for level, sort in enumerate("uvwx"):
            start, end = "abcde"[level], "abcde"[level + 1]
            rules.append(Rule("say" + sort, start, end, asks[level - 1 : level] if level else [], [sort]))
            rules.append(Rule("go" + sort, start, end, asks[level : level + 1] if level > 2 else []))
        for faults in made.FAULTS:
            protocol = Scheme(list("abcdefg"), ["a"], rules, faults=faults)
            group = Group(protocol, 4, 3, 3 if faults == "stopping" else 0, [("a", 4)])
            voices = said("u") + said("v") + said("w") + said("x")
            self.assertIs(group.can([at_least(voices, 4 * members())], calm=True), True)
            self.assertIs(group.can([above(voices, 4 * members())], calm=True), False)
            self.assertIs(group.can([at_least(at("f"), 1)]), False)


class TrialsAndTwins(unittest.TestCase):
    def test_a_trial_that_returns(self):
        group = four()
        group.take("tell")
        group.take("join")
        group.undo()
        before = told(group)
        list_made = [1]

        def work(same):
            self.assertIs(same, group)
            group.undo()
            group.take("tell")
            group.take("join", 2)
            group.take("end")
            self.assertEqual(len(group.run()[4]), 3)
            return list_made

        self.assertIs(group.trial(work), list_made)
        self.assertEqual(told(group), before)
        self.assertIs(group.again(), True)
        self.assertEqual(group.run()[4], [("go", "tell", 1), ("go", "join", 1)])
        self.assertEqual([group.undo(), group.undo(), group.undo()], [True, True, False])

    def test_a_trial_that_raises(self):
        for kind in (NotThere, ValueError, KeyError, ZeroDivisionError):
            group = four()
            group.take("tell")
            before = told(group)

            def work(same):
                same.take("join")
                same.undo()
                same.undo()
                if kind is NotThere:
                    same.take("end")
                raise kind("told")

            with self.assertRaises(kind) as caught:
                group.trial(work)
            if kind is NotThere:
                self.assertEqual(caught.exception.place, "sent")
            self.assertEqual(told(group), before)
            self.assertIs(group.again(), False)
            self.assertIs(group.undo(), True)

    def test_one_within_another(self):
        group = four()
        seen = []

        def inner(same):
            same.take("join", 2)
            seen.append(same.run()[4])
            raise KeyError

        def outer(same):
            same.take("tell")
            try:
                same.trial(inner)
            except KeyError:
                seen.append(same.run()[4])
            seen.append(same.trial(lambda other: other.take("join") or other.run()[4]))
            same.undo()
            seen.append(same.again())
            return same.is_calm()

        self.assertIs(group.trial(outer), True)
        both = [("go", "tell", 1), ("go", "join", 2)]
        self.assertEqual(seen, [both, both[:1], [both[0], ("go", "join", 1)], True])
        self.assertEqual((group.run()[4], group.undo(), group.again()), ([], False, False))

    def test_a_trial_that_does_nothing(self):
        group = four()
        self.assertIsNone(group.trial(lambda same: None))
        self.assertEqual(group.trial(lambda same: same.may()), ["tell"])

    def test_twins(self):
        group = four(faults="stopping")
        group.cut("tell")
        group.take("tell")
        group.undo()
        twin = group.twin()
        self.assertIsNot(twin, group)
        self.assertIs(type(twin), Group)
        self.assertEqual(told(twin), told(group))
        self.assertEqual(twin.protocol, group.protocol)
        self.assertIs(twin.again(), False)
        before = told(group)
        self.assertIs(twin.undo(), True)
        twin.take("tell", 2)
        self.assertEqual(told(group), before)
        self.assertIs(group.again(), True)
        self.assertEqual(group.run()[4], [("cut", "tell", 1), ("go", "tell", 1)])
        self.assertEqual(twin.run()[4], [("go", "tell", 2)])
        self.assertEqual(twin.twin().run(), twin.run())

    def test_new_lists_each_time(self):
        group = four()
        group.take("tell")
        before = told(group)
        for ask in (group.may, group.must, lambda: group.run()[3], lambda: group.run()[4]):
            first, second = ask(), ask()
            self.assertEqual(first, second)
            self.assertIsNot(first, second)
            first.append("more")
            self.assertEqual(ask(), second)
        self.assertEqual(told(group), before)
        self.assertTrue(meets(echo(), group.run(), [at_least(at("sent"), 1)]))

    def test_several_sorts(self):
        group = Group(ballot("lying"), 4, 1, 1, [("yea", 2), ("nay", 1)])
        group.take("vote", 2)
        group.take("deny")
        self.assertEqual([group.said(sort) for sort in ("no", "yes", "won")], [1, 2, 0])
        raised(self, lambda: group.said("yea"), NoSort, "word", "yea")
        self.assertEqual((group.may(), group.must()), (["win"], []))


if __name__ == "__main__":
    unittest.main()
