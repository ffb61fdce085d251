import itertools
import unittest

from strayplates.errors import BadDesign, BadPlan
from strayplates.plan import Plan
from tests.tools import ODD, Checks, listed, rng

MOTIFS = (("b", ("red", "white")), ("a", ("blue",)), ("dead", ("red",)))
JOINTS = (("a", "a"), ("a", "dead"), ("b", "a"))


def random_plan(chance, hues=("white", "red", "blue"), most=4, often=0.5):
    names = chance.sample(("a", "b", "c", "d", "e", "f"), chance.randint(1, most))
    motifs = [(name, tuple([chance.choice(hues) for _ in range(chance.randint(1, 3))])) for name in names]
    joints = sorted([pair for pair in itertools.product(names, repeat=2) if chance.random() < often])
    first, last = [sorted([name for name in names if chance.random() < often]) for _ in range(2)]
    return Plan(motifs, joints, first, last)


def is_design(plan, names):
    return names[0] in plan.first and names[-1] in plan.last and all(
        pair in plan.joints for pair in zip(names, names[1:]))


def told_designs(plan, most):
    names = [name for name, _ in plan.motifs]
    return [row for many in range(1, most + 1) for row in itertools.product(names, repeat=many) if is_design(plan, row)]


class PlanTest(unittest.TestCase, Checks):
    def setUp(self):
        self.plan = Plan(MOTIFS, JOINTS, ("b", "dead"), ("a", "b"))

    def test_attributes(self):
        plan = self.plan
        self.assertEqual((plan.motifs, plan.joints, plan.first, plan.last), (MOTIFS, JOINTS, ("b", "dead"), ("a", "b")))
        self.assertEqual((len(plan), list(plan), plan.live), (3, list(MOTIFS), ("b", "a")))
        bare = Plan(MOTIFS)
        self.assertEqual((bare.joints, bare.first, bare.last, bare.live), ((), (), (), ()))
        self.assertTrue(plan == Plan(listed(MOTIFS), listed(JOINTS), ["b", "dead"], ["a", "b"]))
        for other in (Plan(MOTIFS[:2]), Plan(MOTIFS, JOINTS[:2], ("b", "dead"), ("a", "b")),
                      Plan(MOTIFS, JOINTS, ("b",), ("a", "b")), Plan(MOTIFS, JOINTS, ("b", "dead"), ("a",))):
            self.assertTrue(plan != other)
        self.assertTrue(plan != Plan((("b", ("red",)), *MOTIFS[1:]), JOINTS, ("b", "dead"), ("a", "b")))
        for thing in ODD:
            self.assertIs(plan == thing, False)

    def test_designs_that_are(self):
        for design in (("b",), ["b"], ("b", "a"), ("b", "a", "a"), ("b",) + ("a",) * 40):
            self.assertIs(design in self.plan, True)
        for thing in ODD + ((), ("a",), ("dead",), ("b", "b"), ("b", "a", "dead"), ("b", "a", 1), ("b", "tree"), "b",
                            ("b", ("a",)), {"b": 1}):
            self.assertIs(thing in self.plan, False)

    def test_wrong_motifs(self):
        six = tuple([(letter, ("red",) * 6) for letter in "abcdef"])
        self.assertEqual(len(Plan(six)), 6)
        for motifs in (None, (), "ab", six + (("g", ("red",)),), (("a",),), (("a", ()),), (("a", ("red",) * 7),),
                       (("a", "red"),), (("a", ("Red",)),), (("a", (1,)),), (("a", ("red", "Red")),),
                       (("a", ("red",)), ("b", ())), (("a", ("red",)), ("b", ("red",)), None), (("A", ("red",)),), (None,),
                       (("a", ("red",)), ("a", ("blue",))), (("a", ("red",), 1),), {"a": ("red",)}, (([], ("red",)),)):
            self.assert_error(BadPlan, {"word": "motifs"}, Plan, motifs, None, None, None)

    def test_wrong_joints_first_and_last(self):
        for joints in (None, "ab", 3, (("a",),), (("a", "b", "b"),), (("b", "a"), ("a", "a")), (("a", "a"), ("a", "a")),
                       (("a", "tree"),), (("a", 1),), (None,), ("ab",), {("a", "b")}, ((["a"], "b"),)):
            self.assert_error(BadPlan, {"word": "joints"}, Plan, MOTIFS, joints, None, None)
        for names in (None, "ab", 3, ("b", "a"), ("a", "a"), ("tree",), (1,), (("a",),), {"a"}, (True,)):
            self.assert_error(BadPlan, {"word": "first"}, Plan, MOTIFS, JOINTS, names, None)
            self.assert_error(BadPlan, {"word": "last"}, Plan, MOTIFS, JOINTS, ("a",), names)

    def test_lists_are_kept_as_tuples(self):
        motifs, joints, first, last = listed(MOTIFS), listed(JOINTS), ["b", "dead"], ["a", "b"]
        plan = Plan(motifs, joints, first, last)
        motifs[0][1].append("red")
        joints[0][0] = "b"
        first.clear()
        last.clear()
        self.assertTrue(plan == self.plan)
        self.assertEqual(list(plan.designs(3)), list(self.plan.designs(3)))
        self.assert_tuples((plan.motifs, plan.joints, plan.first, plan.last))

    def test_tape_of(self):
        self.assertEqual(self.plan.tape_of(("b", "a", "b")), ("red", "white", "blue", "red", "white"))
        self.assertEqual(self.plan.tape_of(["dead", "dead"]), ("red", "red"))
        self.assertEqual(self.plan.tape_of(()), ())
        self.assertEqual(len(self.plan.tape_of(("b",) * 30)), 60)
        for thing in (None, "b", ("b",) * 31, {}, 3, (None,) * 31):
            self.assert_error(BadDesign, {"number": -1}, self.plan.tape_of, thing)
        for name in (None, "tree", 1, True, ("b",), ["b"]):
            self.assert_error(BadDesign, {"number": 1}, self.plan.tape_of, ("b", name, None))

    def test_places(self):
        plan = self.plan
        self.assertEqual(plan.follows((-1, 0)), ((0, 1),))
        self.assertEqual(plan.follows([0, 1]), ((0, 2),))
        self.assertEqual(plan.follows((0, 2)), ((-2, 0), (1, 1)))
        self.assertEqual(plan.follows((1, 1)), ((-2, 0), (1, 1)))
        self.assertEqual(plan.follows((2, 1)), ())
        self.assertEqual(plan.follows((-2, 0)), ((-2, 0),))
        self.assertEqual([plan.colour_of(place) for place in ((0, 1), [0, 2], (1, 1), (2, 1), (-2, 0))],
                         ["red", "white", "blue", "red", "white"])
        self.assertEqual(Plan(MOTIFS).follows((-1, 0)), ())
        late = Plan(MOTIFS, JOINTS, ("b",), ("dead",))
        self.assertEqual((late.live, late.follows((1, 1)), late.follows((2, 1))),
                         (("b", "a", "dead"), ((1, 1), (2, 1)), ((-2, 0),)))

    def test_designs(self):
        self.assertEqual(list(self.plan.designs(3)), [("b",), ("b", "a"), ("b", "a", "a")])
        self.assertEqual(list(self.plan.designs(0)), [])
        self.assertEqual(list(Plan(MOTIFS).designs(6)), [])
        both = Plan(MOTIFS[:2], (("a", "b"), ("b", "a")), ("a", "b"), ("a", "b"))
        self.assertEqual(list(both.designs(2)), [("b",), ("a",), ("b", "a"), ("a", "b")])

    def test_the_generator(self):
        both = Plan(MOTIFS[:2], (("a", "b"), ("b", "a")), ("a", "b"), ("a", "b"))
        one, other = both.designs(6), both.designs(2)
        self.assertEqual(next(one), ("b",))
        self.assertEqual([next(other), next(other)], [("b",), ("a",)])
        self.assertEqual((next(one), next(other), next(one)), (("a",), ("b", "a"), ("b", "a")))
        one.close()
        self.assertEqual((list(one), list(other)), ([], [("a", "b")]))
        self.assertEqual(len(list(both.designs(6))), 12)
        full = Plan([(letter, ("red",)) for letter in "abcdef"], sorted(itertools.product("abcdef", repeat=2)),
                    "a b c d e f".split(), "a b c d e f".split())
        self.assertEqual(next(full.designs(6)), ("a",))

    def test_without(self):
        plan = self.plan.without(["b", "a"], ("a", "dead"))
        self.assertTrue(plan == Plan(MOTIFS, (("a", "a"),), ("b", "dead"), ("a", "b")))
        self.assertTrue(self.plan.without() == self.plan)
        self.assertEqual(self.plan.joints, JOINTS)
        self.assertTrue(self.plan.without(("a", "a"), ("a", "a")) == Plan(MOTIFS, JOINTS[1:], ("b", "dead"), ("a", "b")))
        for thing in (None, ("a", "b"), "aa", ("a",), 3, (("a", "a"),)):
            self.assert_error(BadPlan, {"word": "joints"}, self.plan.without, ("a", "a"), thing)

    def test_against_plain_ways(self):
        chance = rng(17)
        for _ in range(80):
            plan = random_plan(chance)
            names = [name for name, _ in plan.motifs]
            designs = told_designs(plan, 5)
            self.assertEqual(list(plan.designs(5)), designs)
            for many in (1, 2, 3):
                for row in itertools.product(names, repeat=many):
                    self.assertIs(row in plan, row in designs)
                    self.assertIs(list(row) in plan, row in designs)
            # No way from the first ones needs more than five motifs, as there are at most four.
            self.assertEqual(set(plan.live), {name for design in told_designs(plan, 7) for name in design}
                             if len(names) < 4 else set(plan.live))
            self.assertEqual(list(plan.live), [name for name in names if name in plan.live])
            self.assertEqual({plan.tape_of(design) for design in designs if len(plan.tape_of(design)) <= 5},
                             self.tapes(plan, 5))

    def tapes(self, plan, most):
        """The tapes of at most so many colours, by the places."""
        found, level = set(), [((-1, 0), ())]
        for _ in range(most + 1):
            following = []
            for place, tape in level:
                for further in plan.follows(place):
                    if further == (-2, 0):
                        found.add(tape)
                    else:
                        following.append((further, (*tape, plan.colour_of(further))))
                self.assertEqual(list(plan.follows(place)), sorted(plan.follows(place)))
            level = following
        return found


if __name__ == "__main__":
    unittest.main()
