"""Tests of driftstore.hits (points 1, 13 and 14): kept programs despite hits, and runs with told hits."""

import random
import unittest
from unittest import mock

from driftstore import stands, writing
from driftstore.errors import BadInputs, BadMachine, BadNumber, BadProgram, BadRows, NoWay, TooMany
from driftstore.hits import faults_despite, keeps_despite, kept_despite, run_hit, struck
from driftstore.machines import turns
from driftstore.parts import keeps
from driftstore.programs import used
from driftstore.runs import run_still, run_stirred
from driftstore.universals import hardest
from driftstore.walks import carries
from driftstore.writing import kept
from drawing import PRIMES, drawn_hits, drawn_kept, drawn_machine, drawn_program, drawn_row, unit
from test_writing import ALL_DEEDS, DEAF, LONG
from trying_out import faults_tried_out, run_by_words
from wrong_values import FAR_INTEGERS, NO_INTEGERS, NO_ROW_PARTS, WrongValueTests, put_in

SWAP = (2, ((0, 1), (1, 0)), ((1, 0),), ((1, 0),))
ROUND = (7, ((0, 1, 0, 0), (0, 0, 1, 0), (0, 0, 0, 1), (1, 0, 0, 0)), ((1, 0, 0, 0),), ((1, 0, 0, 0),))
STILL = (5, unit(2), unit(2), unit(2))
FOUND = (("ask",), ("add", 0), ("get", 0), ("say",))
HIT = ((1, 0),)


def drawn_blows(chance, prime, hits, most, marks):
    """Ascending blows of numbers less than so many marks."""
    many = chance.randint(0, most)
    return tuple(sorted({
        (chance.randrange(marks), chance.randrange(len(hits)), chance.randrange(prime)) for _ in range(many)
    }))


class KeptDespiteTests(unittest.TestCase):
    def assert_carried(self, machine, hits, values, program):
        """Some kept program comes, and it carries the program whatever hits come."""
        found = kept_despite(machine, hits, values, program)
        self.assertIs(type(found), tuple)
        self.assertTrue(1 <= len(found) <= 6000)
        self.assertEqual(faults_despite(machine, hits, values, program, found), ())
        self.assertIs(carries(machine, values, program, found), True)
        return found

    def assert_says_the_same(self, machine, hits, values, program, found, inputs, blows):
        """A run with hits says what a run on a still memory says, and stops if that does."""
        said, word, _ = run_still(machine[0], values, program, inputs, 1000)
        most = 100000 if word == "stopped" else 3000
        told, other_word, _ = run_hit(machine, hits, found, inputs, most, blows)
        self.assertEqual(other_word, word)
        many = min(len(said), len(told))
        self.assertEqual(told[:many], said[:many])
        if word == "stopped":
            self.assertEqual(told, said)

    def test_drawn_programs_on_drawn_machines(self):
        chance = random.Random(141)
        many = {"carried": 0, "hit": 0, "no way": 0}
        for _ in range(1000):
            machine, values = drawn_machine(chance), chance.randint(1, 3)
            hits = drawn_hits(chance, machine)
            program = drawn_program(chance, machine[0], values)
            with self.subTest(machine=machine, hits=hits, values=values, program=program):
                if len(used(machine[0], values, program)) > keeps_despite(machine, hits):
                    self.assertRaises(NoWay, kept_despite, machine, hits, values, program)
                    many["no way"] += 1
                    continue
                found = self.assert_carried(machine, hits, values, program)
                many["carried"] += 1
                if 0 < keeps_despite(machine, hits) < keeps(machine):
                    many["hit"] += 1
                for length in (0, 8):
                    inputs = drawn_row(chance, machine[0], length)
                    blows = drawn_blows(chance, machine[0], hits, 40, chance.choice((5, 40, 400)))
                    self.assert_says_the_same(machine, hits, values, program, found, inputs, blows)
        self.assertGreater(min(many.values()), 100)

    def test_walks_tried_out_with_all_inputs_and_hits(self):
        chance = random.Random(142)
        for _ in range(250):
            machine, values = drawn_machine(chance, (2, 3), 2), chance.randint(1, 2)
            hits, program = drawn_hits(chance, machine), drawn_program(chance, machine[0], values, 8)
            if len(used(machine[0], values, program)) <= keeps_despite(machine, hits):
                with self.subTest(machine=machine, hits=hits, values=values, program=program):
                    found = kept_despite(machine, hits, values, program)
                    self.assertEqual(faults_tried_out(machine, values, program, found, hits), ())

    def test_as_many_used_values_as_keeps_despite_tells_and_one_more(self):
        chance, met = random.Random(143), []
        while len(met) < 150:
            machine = drawn_machine(chance)
            hits = drawn_hits(chance, machine)
            many = keeps_despite(machine, hits)
            met.append((many, many < keeps(machine)))
            with self.subTest(machine=machine, hits=hits):
                if many > 0:
                    found = self.assert_carried(machine, hits, many, hardest(many))
                    inputs = drawn_row(chance, machine[0], many) + (0, 0, 1) + drawn_row(chance, machine[0], 3)
                    blows = drawn_blows(chance, machine[0], hits, 40, 30)
                    self.assert_says_the_same(machine, hits, many, hardest(many), found, inputs, blows)
                if many < 4:
                    self.assertRaises(NoWay, kept_despite, machine, hits, many + 1, hardest(many + 1))
        for many in (0, 1, 2):
            self.assertIn((many, True), met)

    def test_noughts_alone_are_as_no_hits(self):
        chance = random.Random(144)
        for _ in range(150):
            machine, values = drawn_machine(chance), chance.randint(1, 4)
            program, hits = drawn_program(chance, machine[0], values), ((0,) * len(machine[1]),) * chance.randint(1, 3)
            if len(used(machine[0], values, program)) <= keeps(machine):
                found = self.assert_carried(machine, hits, values, program)
                self.assertEqual(len(found), len(kept(machine, values, program)))
        self.assert_carried(LONG, ((0, 0, 0, 0),), 4, hardest(4))

    def test_hits_that_strike_all_that_can_be_reached(self):
        machine = (3, unit(2), ((1, 1),), unit(2))
        self.assertRaises(NoWay, kept_despite, machine, ((2, 2),), 1, FOUND)
        self.assertRaises(NoWay, kept_despite, SWAP, unit(2), 1, FOUND)
        # Programs without a value need nothing that is kept.
        for program in ((("ask",), ("say",), ("zero", 0), ("put", 1), ("say",)), (("say",),), (("stop",),)):
            self.assert_carried(machine, ((2, 2),), 1, program)
            self.assert_carried(SWAP, unit(2), 1, program)

    def test_hits_that_meet_no_form_that_is_needed(self):
        machine = (3, unit(3), unit(3)[:2], unit(3)[:2])
        found = self.assert_carried(machine, ((0, 0, 2),), 2, ALL_DEEDS)
        self.assertLessEqual(len(found), len(ALL_DEEDS))
        for prime in PRIMES:
            machine = (prime, unit(4), unit(4), unit(4))
            for program in (ALL_DEEDS, hardest(2), FOUND):
                found = self.assert_carried(machine, unit(4)[:2], 2, program)
                self.assertLessEqual(len(found), len(program))

    def test_columns_that_are_never_hit_need_no_wait(self):
        # One of two parts is stirred with a round of 48 and hit; the value can stand in the other one.
        machine = (7, ((0, 1, 0), (4, 1, 0), (0, 0, 1)), ((1, 0, 0), (0, 0, 1)), ((1, 0, 0), (0, 0, 1)))
        self.assertEqual([turns(machine), keeps_despite(machine, ((1, 0, 0),))], [48, 2])
        program = FOUND + (("zero", 1), ("zero", 2), ("zero", 3), ("go", 0))
        self.assertEqual(len(self.assert_carried(machine, ((1, 0, 0),), 1, program)), len(program))
        two = put_in(put_in(program, 1, ("add", 1)), 2, ("get", 3))
        self.assertGreater(len(self.assert_carried(machine, ((1, 0, 0),), 4, two)), len(two))

    def test_hits_that_come_to_all_cells_in_turn(self):
        # A say, ask or zero must come when the hits go to the one cell in which no value stands.
        self.assertEqual([struck(ROUND, ((0, 2, 0, 0),)), keeps_despite(ROUND, ((0, 2, 0, 0),))], [unit(4), 3])
        for program in (ALL_DEEDS, hardest(2), hardest(3), FOUND + (("zero", 1), ("go", 0))):
            found = self.assert_carried(ROUND, ((0, 2, 0, 0),), 3, program)
            for inputs in ((), (1, 2, 3, 0, 0, 1), (6, 5, 4, 0, 3)):
                for factor in range(1, 7):
                    blows = tuple((mark, 0, factor) for mark in range(40))
                    self.assert_says_the_same(ROUND, ((0, 2, 0, 0),), 3, program, found, inputs, blows)
        self.assertRaises(NoWay, kept_despite, ROUND, ((0, 2, 0, 0),), 4, hardest(4))

    def test_hits_out_of_reach_that_can_be_seen(self):
        machine = (5, ((1, 0, 1), (0, 1, 0), (0, 0, 1)), ((1, 0, 0), (0, 1, 0)), ((1, 1, 1), (0, 1, 2)))
        for hits in (((0, 0, 1),), ((1, 0, 1),), ((0, 0, 0), (1, 4, 0)), ((4, 0, 3), (2, 2, 1))):
            many = keeps_despite(machine, hits)
            for values in range(1, many + 1):
                self.assert_carried(machine, hits, values, hardest(values))

    def test_only_used_values_count(self):
        program = (("ask",), ("add", 3), ("get", 3), ("say",), ("stop",), ("add", 0), ("add", 1))
        self.assertEqual(keeps_despite(STILL, HIT), 1)
        self.assert_carried(STILL, HIT, 4, program)
        self.assertRaises(NoWay, kept_despite, STILL, HIT, 4, put_in(program, 4, ("say",)))
        self.assertRaises(NoWay, kept_despite, STILL, HIT, 4, put_in(program, 2, ("get", 2)))

    def test_a_machine_that_keeps_nothing(self):
        self.assertRaises(NoWay, kept_despite, DEAF, ((1,),), 1, FOUND)
        self.assertRaises(NoWay, kept_despite, DEAF, ((0,),), 1, FOUND)
        self.assert_carried(DEAF, ((1,),), 1, (("ask",), ("say",), ("go", 0)))

    def test_long_rounds(self):
        # 400 ticks multiply all memories; in between there is no tick but one at which three values are safe.
        self.assertEqual([turns(LONG), keeps_despite(LONG, ((1, 2, 3, 4),))], [2400, 3])
        self.assert_carried(LONG, ((1, 2, 3, 4),), 3, (("ask",), ("add", 0), ("ask",), ("add", 1), ("get", 0), ("say",)))
        self.assert_carried(LONG, ((1, 2, 3, 4),), 1, hardest(1))
        self.assert_carried(LONG, ((1, 2, 3, 4),), 2, hardest(2)[:8])
        self.assert_carried(LONG, ((1, 2, 3, 4), (0, 0, 6, 0)), 2, FOUND)

    def test_too_many(self):
        program = FOUND + tuple(("zero", place) for place in range(4)) + (("get", 1), ("add", 2), ("get", 2), ("say",))
        with self.assertRaises(TooMany) as caught:
            kept_despite(LONG, ((1, 2, 3, 4),), 3, program)
        self.assertEqual(caught.exception.most, 6000)

    def test_just_as_many_as_may_be(self):
        many = len(kept_despite(LONG, ((1, 2, 3, 4),), 3, FOUND))
        with mock.patch.object(writing, "MOST_KEPT", many):
            self.assertEqual(len(kept_despite(LONG, ((1, 2, 3, 4),), 3, FOUND)), many)

    def test_another_way_is_tried_ahead_of_too_many(self):
        # One value can stand so that hits may come often, or so that there is as little noise as can be.
        hits, tried = ((1, 2, 3, 4),), []
        real = writing.written_out

        def failing_at_first(stand, program):
            tried.append(stand.noise)
            if len(tried) == 1:
                raise TooMany(20000)
            return real(stand, program)

        with mock.patch.object(writing, "written_out", failing_at_first):
            found = kept_despite(LONG, hits, 1, FOUND)
        self.assertEqual(faults_despite(LONG, hits, 1, FOUND, found), ())
        self.assertEqual([len(noise) for noise in tried], [3, 1])
        self.assertEqual([stand.noise for stand in stands.stands(LONG, ((0, 0, 0, 0),), 1)], [()])

    def test_equal_arguments_have_equal_answers(self):
        self.assertEqual(kept_despite(ROUND, ((0, 2, 0, 0),), 3, hardest(2)),
                         kept_despite(ROUND, ((0, 2, 0, 0),), 3, hardest(2)))
        self.assertEqual(kept_despite(program=FOUND, values=1, hits=HIT, machine=SWAP),
                         kept_despite(SWAP, HIT, 1, FOUND))


class RunHitTests(unittest.TestCase):
    def assert_says(self, said, machine, hits, program, blows, inputs=()):
        self.assertEqual(run_hit(machine, hits, program, inputs, 1000, blows)[0], said)

    def test_a_hit_ahead_of_each_say_ask_and_zero(self):
        tell = (("get", 0), ("say",))
        machine = (5, ((1,),), ((1,),), ((1,),))
        for mark in (("say",), ("ask",), ("zero", 1)):
            said = (0,) if mark[0] == "say" else ()
            self.assert_says(said + (3,), machine, ((1,),), (mark,) + tell, ((0, 0, 3),))
            self.assert_says(said + (0,), machine, ((1,),), (mark,) + tell, ((1, 0, 3),))
            self.assert_says(said + (4,), machine, ((2,),), (mark,) + tell, ((0, 0, 2), (1, 0, 1)))

    def test_other_instructions_are_not_counted(self):
        machine = (5, ((1,),), ((1,),), ((1,),))
        deeds = (("put", 1), ("wait",), ("add", 0), ("take", 0), ("plus", 0), ("minus", 0), ("go", 7), ("get", 0))
        program = deeds + (("say",), ("get", 0), ("say",), ("stop",))
        self.assert_says((0, 0), machine, ((1,),), program, ())
        self.assert_says((0, 2), machine, ((1,),), program, ((0, 0, 2),))
        self.assert_says((0, 0), machine, ((1,),), program, ((1, 0, 2), (2, 0, 2), (7, 0, 1)))

    def test_marks_are_counted_together_from_0_as_the_run_comes_to_them(self):
        program = (("ask",), ("say",), ("zero", 4), ("say",), ("get", 0), ("say",), ("stop",))
        machine = (7, ((1,),), ((1,),), ((1,),))
        for number, inputs, said in (
            (0, (), (0, 3)), (1, (), (0, 3)), (2, (), (0, 3)), (3, (), (0, 0)), (3, (5,), (5, 5, 3)), (4, (5,), (5, 5, 0)),
        ):
            self.assert_says(said, machine, ((1,),), program, ((number, 0, 3),), inputs)
        loop = (("get", 0), ("say",), ("go", 0))
        self.assertEqual(run_hit(machine, ((1,),), loop, (), 12, ((0, 0, 1), (2, 0, 2), (3, 0, 3))),
                         ((0, 1, 1, 3, 6, 6), "running", 12))

    def test_a_hit_is_added_ahead_of_the_stirring(self):
        program = (("say",), ("get", 0), ("say",), ("get", 0), ("say",))
        self.assert_says((0, 1, 1), SWAP, ((0, 1),), program, ((0, 0, 1),))
        self.assert_says((0, 0, 0), SWAP, ((1, 0),), program, ((0, 0, 1),))
        machine = (7, ((3,),), ((1,),), ((1,),))
        self.assert_says((0, 6, 5), machine, ((1,),), program, ((0, 0, 2),))

    def test_a_hit_does_not_change_the_hand(self):
        self.assert_says((4, 1), STILL, unit(2), (("put", 4), ("say",), ("get", 0), ("say",)), ((0, 0, 1),))

    def test_unlike_hits_at_one_number(self):
        program = (("ask",), ("get", 0), ("say",), ("get", 1), ("say",))
        self.assert_says((2, 3), STILL, unit(2), program, ((0, 0, 2), (0, 1, 3)))
        self.assert_says((4, 2), STILL, ((1, 0), (3, 2)), program, ((0, 0, 1), (0, 1, 1)))
        # Unlike factors of one hit are unlike blows.
        self.assert_says((3, 0), STILL, unit(2), program, ((0, 0, 1), (0, 0, 2)))
        self.assert_says((0, 0), STILL, unit(2), program, ((0, 0, 1), (0, 0, 4)))

    def test_a_factor_of_0(self):
        program = (("ask",), ("get", 0), ("say",))
        self.assert_says((0,), STILL, unit(2), program, ((0, 0, 0), (0, 1, 0), (1, 0, 0)))

    def test_the_last_number_that_may_be(self):
        loop = (("say",), ("get", 0), ("go", 0))
        said, word, ticks = run_hit(STILL, HIT, loop, (), 100000, ((49998, 0, 2), (100000, 0, 1)))
        self.assertEqual([len(said), said[-2:], word, ticks], [50000, (0, 2), "running", 100000])
        loop = (("ask",), ("go", 0))
        self.assertEqual(run_hit(STILL, HIT, loop, (1,), 100000, ((0, 0, 1), (100000, 0, 1))), ((), "running", 100000))

    def test_no_and_40_blows(self):
        program = (("ask",),) * 41 + (("get", 0), ("say",))
        blows = tuple((number, 0, 1) for number in range(41))
        machine = (7, ((1,),), ((1,),), ((1,),))
        self.assert_says((0,), machine, ((1,),), program, ())
        self.assert_says((40 % 7,), machine, ((1,),), program, blows[:40])
        self.assert_says((40 % 7,), machine, ((1,),), program, blows[1:])
        self.assertRaises(BadRows, run_hit, machine, ((1,),), program, (), 1000, blows)

    def test_no_ticks_and_100000(self):
        self.assertEqual(run_hit(STILL, HIT, FOUND, (), 0, ((0, 0, 1),)), ((), "running", 0))
        self.assertEqual(run_hit(STILL, HIT, (("stop",),), (), 0, ((0, 0, 1),)), ((), "stopped", 0))
        self.assertEqual(run_hit(STILL, HIT, (("wait",), ("go", 0)), (), 100000, ())[1:], ("running", 100000))
        self.assertEqual(run_hit(STILL, HIT, FOUND, (3,), 4, ((0, 0, 1),)), ((4,), "stopped", 4))
        self.assertEqual(run_hit(STILL, HIT, FOUND, (3,), 3, ((0, 0, 1),)), ((), "running", 3))

    def test_without_blows_a_run_from_nought(self):
        chance = random.Random(146)
        for _ in range(200):
            machine = drawn_machine(chance)
            hits, program = drawn_hits(chance, machine), drawn_kept(chance, machine)
            inputs, nought = drawn_row(chance, machine[0], chance.randint(0, 9)), (0,) * len(machine[1])
            told = run_stirred(machine, program, inputs, 300, nought)
            self.assertEqual(run_hit(machine, hits, program, inputs, 300, ()), told)
            self.assertEqual(run_hit(machine, (nought,), program, inputs, 300, ((0, 0, 1), (3, 0, 1))), told)

    def test_runs_word_by_word(self):
        chance, changed = random.Random(147), 0
        for _ in range(800):
            machine = drawn_machine(chance)
            hits, program = drawn_hits(chance, machine), drawn_kept(chance, machine)
            inputs, most = drawn_row(chance, machine[0], chance.randint(0, 9)), chance.choice((0, 1, 7, 200))
            blows = drawn_blows(chance, machine[0], hits, 40, chance.choice((3, 30)))
            nought = (0,) * len(machine[1])
            with self.subTest(machine=machine, hits=hits, program=program, inputs=inputs, most=most, blows=blows):
                told = run_by_words(machine, program, inputs, most, nought, hits, blows)
                self.assertEqual(run_hit(machine, hits, program, inputs, most, blows), told)
                changed += told != run_by_words(machine, program, inputs, most, nought)
        self.assertGreater(changed, 20)


WRONG_BLOWS = [value for value in NO_ROW_PARTS if value != ()] + [
    [(0, 0, 1)], ([0, 0, 1],), ((0, 0),), ((0, 0, 1, 0),), (0, 0, 1), ((),), ("001",), {(0, 0, 1): 0}, {(0, 0, 1)},
    ((1, 0, 0), (0, 0, 0)), ((0, 1, 0), (0, 0, 1)), ((0, 0, 1), (0, 0, 0)), ((0, 0, 1), (0, 0, 1)),
    ((0, 0, 0), (2, 0, 0), (1, 0, 0)), ((0, 0, 1), None), (None, (0, 0, 1)), ((0, 0, 1), (1, 0, 5)), ((0, 2, 1),),
    ((100001, 0, 1),), ((0, 0, 0), (0, 0, 1), (0, 0, 1)), ((0, 0, 1), (0, 0)),
]


class WrongInputTests(WrongValueTests, unittest.TestCase):
    def test_wrong_blows(self):
        for blows in WRONG_BLOWS:
            self.assert_raises_exactly(BadRows, run_hit, STILL, unit(2), FOUND, (1,), 9, blows)

    def test_wrong_parts_of_blows(self):
        for place in range(3):
            for value in NO_INTEGERS + FAR_INTEGERS:
                for other in ((), ((5, 0, 0),)):
                    blows = (put_in((0, 0, 1), place, value),) + other
                    self.assert_raises_exactly(BadRows, run_hit, STILL, HIT, FOUND, (1,), 9, blows)
        self.assert_raises_exactly(BadRows, run_hit, STILL, HIT, FOUND, (1,), 9, ((0, 1, 1),))
        self.assert_raises_exactly(BadRows, run_hit, STILL, HIT, FOUND, (1,), 9, ((0, 0, 5),))
        self.assert_raises_exactly(BadRows, run_hit, STILL, HIT, FOUND, (1,), 9, ((0, -1, 1),))

    def test_blows_that_the_run_does_not_come_to_count(self):
        self.assert_raises_exactly(BadRows, run_hit, STILL, HIT, (("stop",),), (), 0, ((7, 0, 5),))

    def test_wrong_inputs_and_ticks(self):
        for inputs in [value for value in NO_ROW_PARTS if value not in ((), (2,))] + [(5,), [0], (0,) * 51]:
            self.assert_raises_exactly(BadInputs, run_hit, STILL, HIT, FOUND, inputs, 9, ())
        for most in NO_INTEGERS + FAR_INTEGERS:
            self.assert_raises_exactly(BadNumber, run_hit, STILL, HIT, FOUND, (1,), most, ())

    def test_the_leftmost_error_is_raised(self):
        right = (STILL, HIT, FOUND, (1,), 9, ((0, 0, 1),))
        wrong = ((None, BadMachine), ([], BadRows), ((), BadProgram), (None, BadInputs), (-1, BadNumber),
                 ((0, 0, 1), BadRows))
        self.assert_leftmost_raised(run_hit, right, wrong)

    def test_no_way_comes_behind_all_others(self):
        self.assert_raises_exactly(BadRows, kept_despite, DEAF, ((2,),), 1, FOUND)
        self.assert_raises_exactly(BadNumber, kept_despite, DEAF, ((1,),), 5, FOUND)
        self.assert_raises_exactly(BadProgram, kept_despite, DEAF, ((1,),), 1, FOUND + (("add", 1),), index=4)
        self.assert_raises_exactly(NoWay, kept_despite, DEAF, ((1,),), 1, FOUND)


if __name__ == "__main__":
    unittest.main()
