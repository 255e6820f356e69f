"""Points 3 and 26 to 30: wishes, and which of them hold in protocols like one another."""

import copy
import inspect
import random
import unittest

from manyvoices import wishes as wishes_file
from manyvoices.errors import BadBox, BadIndex, BadWish, NoRule, UnlikePlaces
from manyvoices.forms import above, at, at_least, begun, bound, faulty, heard, members, said
from manyvoices.protocols import Rule, Scheme
from manyvoices.reaching import reach, together
from manyvoices.wishes import broken, by_faults, parting, spare, thresholds
from tests import made, search
from tests.examples import any_objects, ballot, echo
from tests.test_papers import NOBODY_BEGINS
from tests.test_reaching import SOME_AND_NOT_ALL_END

SOUND = ("never", NOBODY_BEGINS)
ALIKE = ("calm", SOME_AND_NOT_ALL_END)
IDLE = ("never", [at_least(at("done"), 1)])
RESTED = ("calm", [at_least(at("news"), 1)])
FOUR = [SOUND, ALIKE, IDLE, RESTED]
SAFE = [above(members(), 3 * bound())]


def broken_anew(protocol, wishes):
    """The indexes of the wishes that a run breaks."""
    return [index for index, (word, goal) in enumerate(wishes) if reach(protocol, goal, calm=word == "calm")]


def raised(case, call, kind, attribute, thing):
    with case.assertRaises(kind) as caught:
        call()
    held = getattr(caught.exception, attribute)
    case.assertIs(type(held), type(thing))
    case.assertEqual(held, thing)


def made_up(source, many):
    """Pairs of a protocol and wishes for it, of both kinds that are made up."""
    for number in range(many):
        if number % 2:
            yield made.vote(source), made.vote_wishes(source)
        else:
            places, rules = source.randint(1, 5), source.randint(0, 6)
            protocol = made.protocol(source, places=places, rules=rules, conditions=source.randint(0, 3))
            yield protocol, made.wishes(source, protocol, source.randint(1, 4))


class Broken(unittest.TestCase):
    def test_the_echo(self):
        self.assertEqual(broken(echo(), FOUR), [1, 2])
        self.assertEqual(broken(echo(promise=SAFE), FOUR), [2])
        self.assertEqual(broken(echo(promise=[at_least(0, members())]), FOUR), [])
        self.assertEqual(broken(echo(), [IDLE, IDLE, SOUND, ("never", [])]), [0, 1, 3])
        self.assertEqual(broken(echo(), [("calm", []), ("calm", ())]), [0, 1])

    def test_no_wishes(self):
        for wishes in ([], ()):
            self.assertEqual(broken(echo(), wishes), [])
            self.assertEqual(by_faults(echo(), wishes), {"lying": [], "silent": [], "stopping": []})

    def test_lists_and_tuples_for_one_another(self):
        for wishes in (FOUR, tuple(FOUR), [list(wish) for wish in FOUR], [(word, tuple(goal)) for word, goal in FOUR]):
            self.assertEqual(broken(echo(), wishes), [1, 2])

    def test_made_up(self):
        held = shown = 0
        for protocol, wishes in made_up(random.Random(51), 50):
            told = broken(protocol, wishes)
            self.assertEqual(told, broken_anew(protocol, wishes))
            small = search.Small(protocol, 3)
            for index, (word, goal) in enumerate(wishes):
                if small.those(goal, word == "calm"):
                    self.assertIn(index, told)
                    shown += 1
                held += index not in told
        self.assertGreater(min(held, shown), 30)


class Spare(unittest.TestCase):
    def test_the_echo(self):
        wishes = [SOUND, ALIKE]
        # with n above 3 t both hold; without the promise the second one is broken
        told = spare(echo(promise=SAFE), wishes)
        self.assertEqual(told, [("rule", "tell"), ("rule", "end")])
        # who waits at sent has heard of the news, so it may as well end
        rules = [("rule", "tell"), ("rule", "join"), ("rule", "end")]
        self.assertEqual(spare(echo(promise=SAFE), [SOUND]), [*rules, ("when", "end", 0), ("promise", 0)])
        # what is broken already does not count
        self.assertIn(("promise", 0), spare(echo(promise=[above(members(), 2 * bound())]), wishes))
        self.assertEqual(spare(echo(), [IDLE]), [*rules, ("when", "join", 0), ("when", "end", 0)])

    def test_no_wishes(self):
        everything = [
            ("rule", "vote"),
            ("rule", "deny"),
            ("rule", "win"),
            ("rule", "lose"),
            ("when", "win", 0),
            ("when", "win", 1),
            ("when", "lose", 0),
            ("promise", 0),
        ]
        for faults in made.FAULTS:
            self.assertEqual(spare(ballot(faults), []), everything)
        self.assertEqual(spare(Scheme(["a"], ["a"], []), []), [])
        self.assertEqual(spare(Scheme(["a"], ["a"], []), [("never", [])]), [])

    def test_a_promise_twice_and_a_condition_twice(self):
        doubled = echo(promise=SAFE * 2)
        end = Rule("end", "sent", "done", [at_least(heard("echo"), members() - bound())] * 2)
        doubled = doubled.but(rules=[*doubled.rules()[:2], end])
        told = spare(doubled, [SOUND, ALIKE])
        twice = [("when", "end", 0), ("when", "end", 1), ("promise", 0), ("promise", 1)]
        self.assertEqual([thing for thing in told if thing[0] != "rule"], twice)

    def test_made_up(self):
        for protocol, wishes in made_up(random.Random(52), 20):
            ahead = set(broken_anew(protocol, wishes))
            rules, promise = protocol.rules(), protocol.promise()
            told = []
            for rule in rules:
                other = protocol.but(rules=[one for one in rules if one != rule])
                told += [("rule", rule.name)] if set(broken_anew(other, wishes)) <= ahead else []
            for rule in rules:
                for index in range(len(rule.when)):
                    when = [one for place, one in enumerate(rule.when) if place != index]
                    less = Rule(rule.name, rule.start, rule.end, when, rule.says)
                    other = protocol.but(rules=[less if one == rule else one for one in rules])
                    told += [("when", rule.name, index)] if set(broken_anew(other, wishes)) <= ahead else []
            for index in range(len(promise)):
                other = protocol.but(promise=[one for place, one in enumerate(promise) if place != index])
                told += [("promise", index)] if set(broken_anew(other, wishes)) <= ahead else []
            self.assertEqual(spare(protocol, wishes), told)


class Thresholds(unittest.TestCase):
    def test_the_echo(self):
        told = thresholds(echo(), "join", 0, [0, 0, 0, 2], [SOUND])
        self.assertEqual(
            told, {(0, 0, 0): [0], (0, 0, 1): [0], (0, 1, 0): [0], (0, 1, 1): [], (0, 2, 0): [0], (0, 2, 1): []}
        )
        self.assertEqual(list(told), sorted(told))
        told = thresholds(echo(promise=SAFE), "end", 0, (1, 1, -2, 0), FOUR)
        self.assertEqual(list(told), [(1, b, d) for b in (-2, -1, 0) for d in (0, 1)])
        self.assertEqual(told[(1, -1, 0)], [2])
        self.assertEqual(told[(1, -1, 0)], broken(echo(promise=SAFE), FOUR))
        # nobody ever hears more than all members
        self.assertEqual(told[(1, 0, 1)], [])

    def test_no_wishes(self):
        self.assertEqual(thresholds(echo(), "end", 0, [-9, -9, 9, 9], []), {(-9, 9, 0): [], (-9, 9, 1): []})

    def test_made_up(self):
        source = random.Random(53)
        unlike = 0
        for protocol, wishes in made_up(source, 30):
            where = [(rule, index) for rule in protocol.rules() for index in range(len(rule.when))]
            if not where:
                continue
            rule, index = source.choice(where)
            a, b = source.randint(-2, 1), source.randint(-2, 1)
            box = source.choice([[a, a + 1, b, b + 1], [a, a, b, b + 3], [a, a + 3, b, b], [a, a, b, b]])
            told = thresholds(protocol, rule.name, index, box, wishes)
            anew = {}
            for a in range(box[0], box[1] + 1):
                for b in range(box[2], box[3] + 1):
                    for d in (0, 1):
                        other = self.exchanged(protocol, rule, index, a * members() + b * bound() + d)
                        anew[(a, b, d)] = broken_anew(other, wishes)
            self.assertEqual(told, anew)
            self.assertEqual(list(told), sorted(anew))
            unlike += any(part != told[min(told)] for part in told.values())
        self.assertGreater(unlike, 5)

    def exchanged(self, protocol, rule, index, form):
        when = list(rule.when)
        ((term, times),) = [pair for pair in when[index].terms() if pair[0][0] == "heard"]
        when[index] = at_least(times * heard(*term[1:]), form)
        other = Rule(rule.name, rule.start, rule.end, when, rule.says)
        return protocol.but(rules=[other if one == rule else one for one in protocol.rules()])

    def test_a_higher_threshold_breaks_none(self):
        for protocol, wishes in made_up(random.Random(54), 16):
            wishes = [("never", goal) for _, goal in wishes]
            for rule in protocol.rules():
                for index in range(len(rule.when)):
                    told = thresholds(protocol, rule.name, index, [0, 1, 0, 1], wishes)
                    for low in told:
                        for high in told:
                            if all(one <= other for one, other in zip(low, high)):
                                self.assertTrue(set(told[high]) <= set(told[low]))

    def test_wrong_arguments(self):
        good = [0, 1, 0, 1]
        for thing in any_objects():
            raised(self, lambda: thresholds(echo(), thing, None, None, None), NoRule, "name", thing)
            if thing != 0 or isinstance(thing, bool):
                raised(self, lambda: thresholds(echo(), "join", thing, None, None), BadIndex, "index", thing)
                raised(self, lambda: thresholds(echo(), "end", thing, good, []), BadIndex, "index", thing)
            raised(self, lambda: thresholds(echo(), "tell", thing, good, []), BadIndex, "index", thing)
            raised(self, lambda: thresholds(echo(), "end", 0, thing, None), BadBox, "box", thing)
            if thing not in ([], ()) and not isinstance(thing, (list, tuple)):
                raised(self, lambda: thresholds(echo(), "end", 0, good, thing), BadWish, "index", 0)
            raised(self, lambda: thresholds(echo(), "end", 0, tuple(good), [SOUND, thing]), BadWish, "index", 1)

    def test_wrong_boxes(self):
        for box in [
            [0, 1, 0],
            [0, 1, 0, 1, 1],
            [1, 0, 0, 1],
            [0, 1, 1, 0],
            [-10, -9, 0, 0],
            [9, 10, 0, 0],
            [0, 0, -10, -10],
            [0, 0, 10, 10],
            [0, 1, 0, 2],
            [0, 4, 0, 0],
            [0, 0, 0, 4],
            [0, 2, 0, 1],
            [False, 1, 0, 1],
            [0, True, 0, 1],
            [0, 1, None, 1],
            [0, 1, 0, "1"],
            "0101",
            {0: 0, 1: 1, 2: 0, 3: 1},
        ]:
            raised(self, lambda: thresholds(echo(), "end", 0, box, []), BadBox, "box", box)
        for box in ([9, 9, 9, 9], [-9, -6, 0, 0], [0, 0, 6, 9], (-1, 0, -1, 0)):
            pairs = (box[1] - box[0] + 1) * (box[3] - box[2] + 1)
            self.assertEqual(len(thresholds(echo(), "end", 0, box, [])), 2 * pairs)


class ByFaults(unittest.TestCase):
    def test_the_echo(self):
        told = by_faults(echo(promise=SAFE), FOUR)
        self.assertEqual(told, {"lying": [2], "silent": [2], "stopping": [2]})
        self.assertEqual(list(told), ["lying", "silent", "stopping"])
        self.assertEqual(list(by_faults(echo(faults="stopping"), FOUR)), ["lying", "silent", "stopping"])
        both = ("never", [at_least(at("won"), 1), at_least(at("lost"), 1)])
        for faults in made.FAULTS:
            self.assertEqual(by_faults(ballot(faults), [both]), {"lying": [0], "silent": [], "stopping": []})

    def test_made_up(self):
        unlike = 0
        for protocol, wishes in made_up(random.Random(55), 40):
            told = by_faults(protocol, wishes)
            anew = [(faults, broken_anew(protocol.but(faults=faults), wishes)) for faults in made.FAULTS]
            self.assertEqual(list(told.items()), anew)
            # what holds under lying holds under silent
            for index, (word, _) in enumerate(wishes):
                if index in told["silent"]:
                    self.assertIn(index, told["lying"])
            unlike += told["lying"] != told["silent"] or told["silent"] != told["stopping"]
        self.assertGreater(unlike, 3)


class Parting(unittest.TestCase):
    def test_alike(self):
        for faults in made.FAULTS:
            self.assertIsNone(parting(echo(faults=faults), echo(faults=faults)))
        self.assertIsNone(parting(echo(), echo(faults="stopping")))

    def test_one_list_is_no_part(self):
        lying, silent, stopping = [ballot(faults) for faults in made.FAULTS]
        told = parting(lying, silent)
        self.assertEqual(told, (False, True, ["yea", "nay", "wait", "won", "lost"]))
        self.assertEqual([type(part) for part in told], [bool, bool, list])
        self.assertEqual(parting(silent, lying), (False, False, ["yea", "nay", "wait", "won", "lost"]))
        # these are alike for standings as such
        self.assertEqual(parting(silent, stopping), (True, False, ["wait", "won"]))
        self.assertEqual(parting(stopping, silent), (True, True, ["wait", "won"]))
        self.assertEqual(parting(echo(), echo(faults="silent")), (True, True, ["old", "sent", "done"]))
        self.assertEqual(parting(echo(faults="silent"), echo()), (True, False, ["old", "sent", "done"]))

    def test_each_has_one_that_the_other_lacks(self):
        one = Scheme(["a", "b", "c"], ["a"], [Rule("x", "a", "b")])
        other = Scheme(["a", "b", "c"], ["a"], [Rule("x", "a", "c")])
        self.assertEqual(parting(one, other), (False, True, ["a", "b"]))
        self.assertEqual(parting(other, one), (False, True, ["a", "c"]))

    def test_unlike_places(self):
        for places in [["a", "b", "d"], ["b", "a", "c"], ["a", "b"], ["a", "b", "c", "d"]]:
            one, other = Scheme(["a", "b", "c"], ["a"], []), Scheme(places, ["a"], [])
            self.assertRaises(UnlikePlaces, lambda: parting(one, other))
            self.assertRaises(UnlikePlaces, lambda: parting(other, one))
        self.assertIsNone(parting(Scheme(("a", "b"), ["a"], []), Scheme(["a", "b"], ("a",), ())))

    def test_made_up(self):
        source = random.Random(56)
        apart = 0
        for one, _ in made_up(source, 40):
            other = one.but(faults=source.choice(made.FAULTS), rules=one.rules()[: source.randint(3, 5)])
            told = parting(one, other)
            apart += told is not None
            self.assertEqual(told, self.anew(one, other))
            self.assertEqual(parting(other, one), self.anew(other, one))
        self.assertTrue(8 < apart < 35, apart)

    def anew(self, one, other):
        for calm in (False, True):
            ones, others = together(one, calm=calm), together(other, calm=calm)
            apart = [(calm, True, some) for some in ones if not any(set(some) <= set(more) for more in others)]
            apart += [(calm, False, some) for some in others if not any(set(some) <= set(more) for more in ones)]
            if apart:
                return apart[0]
            self.assertEqual(ones, others)
        return None


class Calls(unittest.TestCase):
    def test_wrong_wishes(self):
        good = ("never", [])
        bad = [
            *any_objects(),
            ("never",),
            ("never", [], []),
            ("never", None),
            ("never", at_least(at("old"), 1)),
            ("never", [at_least(at("nowhere"), 1)]),
            ("calm", [above(heard("echo"), bound())]),
            ("calm", ["goal"]),
            ("always", []),
            ("", []),
            (None, []),
            (True, []),
            (["never"], []),
            ([], "never"),
            [[], "calm"],
            (members(), []),
            {"never": []},
        ]
        for call in (broken, spare, by_faults):
            for thing in bad:
                if not isinstance(thing, (list, tuple)):
                    raised(self, lambda: call(echo(), thing), BadWish, "index", 0)
                raised(self, lambda: call(echo(), [thing]), BadWish, "index", 0)
                raised(self, lambda: call(echo(), (good, good, good, thing)), BadWish, "index", 3)
                raised(self, lambda: call(echo(), [good, thing, None]), BadWish, "index", 1)

    def test_by_position_and_by_name(self):
        self.assertEqual(broken(protocol=echo(), wishes=FOUR), broken(echo(), FOUR))
        self.assertEqual(spare(protocol=echo(), wishes=FOUR), spare(echo(), FOUR))
        self.assertEqual(by_faults(protocol=echo(), wishes=FOUR), by_faults(echo(), FOUR))
        lying, silent = ballot("lying"), ballot("silent")
        self.assertEqual(parting(one=lying, other=silent), parting(lying, silent))
        self.assertEqual(
            thresholds(protocol=echo(), name="join", index=0, box=[0, 1, 0, 1], wishes=FOUR),
            thresholds(echo(), "join", 0, (0, 1, 0, 1), FOUR),
        )
        for function in (broken, spare, thresholds, by_faults, parting):
            self.assertEqual(inspect.getmodule(function), wishes_file)

    def test_nothing_is_changed_and_all_is_told_alike(self):
        protocol, wishes, box = echo(promise=SAFE), [list(wish) for wish in FOUR], [0, 1, 0, 1]
        before = copy.deepcopy([(word, len(goal)) for word, goal in wishes])
        for ask in (
            lambda: broken(protocol, wishes),
            lambda: spare(protocol, wishes),
            lambda: by_faults(protocol, wishes),
            lambda: thresholds(protocol, "join", 0, box, wishes),
            lambda: parting(protocol, echo(faults="silent")),
        ):
            first, second = ask(), ask()
            self.assertEqual(first, second)
            self.assertIs(type(first), type(second))
            if isinstance(first, dict):
                lists = list(first.values())
                self.assertEqual(len({id(part) for part in lists}), len(lists))
                for part in lists:
                    part.append("more")
            elif isinstance(first, list):
                first.append("more")
            self.assertEqual(ask(), second)
        self.assertEqual([(word, len(goal)) for word, goal in wishes], before)
        self.assertEqual((protocol, box), (echo(promise=SAFE), [0, 1, 0, 1]))

    def test_faulty_ones_and_voices_in_wishes(self):
        goal = [at_least(faulty(), 1), above(said("echo"), begun("news")), at_least(said("noone"), 0)]
        self.assertEqual(broken(echo(), [("never", goal), ("calm", [*goal, at_least(said("noone"), 1)])]), [0])
