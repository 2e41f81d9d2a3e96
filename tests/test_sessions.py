"""Stage 16: sessions."""

import random
import unittest

from tests.samples import drawn_loops
from tests.support import GREAT, Case, EqualToAll, odd_objects, own_objects
from vectorwidths.errors import (
    InvalidBundles, InvalidCommand, InvalidLoop, InvalidName, InvalidPart, NothingToUndo)
from vectorwidths.loops import Loop
from vectorwidths.sessions import Session, together
from vectorwidths.texts import read
from vectorwidths.ways import PARTS, Way
from vectorwidths.widths import first_wrong

TWO = "line a 1\nf a@1 a@0\ng a@2"
WRONG_PARTS = [("tail", "row"), ("ahead", 4), ("ahead", True), ("guard", 1), ("bundles", [(0, 0)]), ("joining", "mask"), ("tail", None)]
ODD = odd_objects() + own_objects() + [0, 1, GREAT, "change", Loop]
NO_ARGUMENTS = [odd for odd in ODD if not (isinstance(odd, tuple) and len(odd) == 2)]
NO_LISTS = [odd for odd in ODD if odd.__class__ not in (list, tuple)] + [{("undo", 1): 2}, "undo"]
NO_DEEDS = ODD + [
    ("undo",), ("undo", 1, 2), ["undo", 1], ("Undo", 1), ("undo ", 1), ("redo", 1), ("", 1), (["undo"], 1), (EqualToAll(), 1),
    (True, 1), (0, "undo", 1), ("verdict", None), ("attempt", ()), ("change", "tail", "rest"), ("change",)] + [
    ("change", odd) for odd in NO_ARGUMENTS + [["tail", "rest"], ("tail", "rest", 0), ("tail",)]]


def shown(session):
    """All that can be seen of a session but for what can be undone."""
    return session.loop, session.way


def all_states(session):
    """What can be seen, from now on back to the beginning; the session is at its beginning then."""
    states = [shown(session)]
    while True:
        try:
            session.undo()
        except NothingToUndo:
            return states
        states.append(shown(session))


def changed_thrice():
    """A session with three deeds that can be undone."""
    session = Session(read(TWO), Way())
    session.change("tail", "rest")
    session.replace(read("line a 1\nf a@0\ng a@0"))
    session.change("bundles", ((1, 1),))
    return session


class Sessions(Case):
    def test_at_first(self):
        session = Session(way=Way(ahead=1), loop=Loop.copying())
        self.equal(session.loop, Loop.copying())
        self.equal(session.way, Way(ahead=1))
        self.assertIs(session.way.__class__, Way)

    def test_bundles_that_do_not_go(self):
        for bundles in (((0, 1),), ((0, 0), (4, 4))):
            way = Way(bundles=bundles)
            self.refuses(InvalidBundles, way, Session, Loop.copying(), way)
            self.refuses(InvalidBundles, way, Session, way=way, loop=Loop.copying())

    def test_the_way_is_a_twin(self):
        way = Way(tail="rest")
        session = Session(Loop.copying(), way)
        way.tail = "whole"
        way.bundles = ((0, 4),)
        self.equal(session.way, Way(tail="rest"))
        told = session.way
        told.change("ahead", 3).change("bundles", ((4, 4),))
        self.equal(session.way, Way(tail="rest"))
        self.assertIsNot(session.way, session.way)
        session.change("ahead", 1)
        told = session.way
        told.ahead = 2
        session.change("guard", False)
        self.equal(session.way, Way(tail="rest", ahead=1, guard=False))
        session.undo()
        self.equal(session.way, Way(tail="rest", ahead=1))
        with self.assertRaises(AttributeError):
            session.way = Way()

    def test_change(self):
        session = Session(read(TWO), Way())
        for part, value in (
                ("tail", "whole"), ("ahead", 3), ("guard", False), ("bundles", ((0, 0), (1, 1))), ("joining", "tree")):
            before = session.way
            self.assertIs(session.change(part, value), None)
            self.equal(session.way, before.change(part, value))
        session.change(value=(), part="bundles")
        self.assertEqual(session.way.bundles, ())
        self.equal(session.loop, read(TWO))

    def test_replace_and_assign(self):
        session = Session(read(TWO), Way(bundles=((0, 1),)))
        other = read("line b 2\nf b@0\ng +\nh b@1")
        self.assertIs(session.replace(other), None)
        self.equal(session.loop, other)
        session.loop = read(TWO)
        self.equal(session.loop, read(TWO))
        session.replace(loop=other)
        self.equal(session.loop, other)
        self.equal(session.way, Way(bundles=((0, 1),)))
        self.assertEqual([len(one[0]) for one in all_states(session)], [3, 2, 3, 2])

    def test_loops_that_are_none(self):
        session = changed_thrice()
        before = shown(session)
        loops = [Loop.copying(), Loop.summing()]
        for wrong in [odd for odd in ODD if not isinstance(odd, Loop)] + loops:
            self.refuses(InvalidLoop, wrong, session.replace, wrong)
            self.refuses(InvalidLoop, wrong, setattr, session, "loop", wrong)
            self.assertEqual(shown(session), before)
        self.assertEqual(len(all_states(session)), 4)

    def test_errors_of_change_in_order(self):
        session = changed_thrice()
        before = shown(session)
        for wrong in ["Tail", "order", 0] + odd_objects() + own_objects():
            self.refuses(InvalidName, wrong, session.change, wrong, None)
            self.refuses(InvalidName, wrong, session.change, wrong, ((0, 2),))
        for part, value in WRONG_PARTS:
            with self.assertRaises(InvalidPart) as caught:
                session.change(part, value)
            self.assertEqual(caught.exception.value, part)
        for part in PARTS:
            for odd in own_objects():
                with self.assertRaises(InvalidPart):
                    session.change(part, odd)
        for value in (((0, 2),), ((0, 0), (2, 4)), ((4, 4),)):
            self.refuses(InvalidBundles, value, session.change, "bundles", value)
        self.assertEqual(shown(session), before)
        self.assertEqual(len(all_states(session)), 4)

    def test_undo(self):
        session = changed_thrice()
        self.assertIs(session.undo(), None)
        self.assertEqual(session.way, Way(tail="rest"))
        self.assertEqual(session.loop, read("line a 1\nf a@0\ng a@0"))
        session.undo()
        self.assertEqual(shown(session), (read(TWO), Way(tail="rest")))
        # What is undone is gone, and what comes then can be undone.
        session.loop = Loop.copying()
        session.undo()
        self.assertEqual(shown(session), (read(TWO), Way(tail="rest")))
        session.undo()
        self.assertEqual(shown(session), (read(TWO), Way()))
        for _ in range(2):
            with self.assertRaises(NothingToUndo):
                session.undo()
        self.assertEqual(shown(session), (read(TWO), Way()))
        session.change("ahead", 1)
        session.undo()
        self.assertEqual(shown(session), (read(TWO), Way()))

    def test_undo_where_nothing_became_other(self):
        session = Session(read(TWO), Way())
        session.change("tail", "rest")
        session.change("tail", "rest")
        session.replace(read(TWO))
        session.loop = session.loop
        self.assertEqual(all_states(session), [(read(TWO), Way(tail="rest"))] * 4 + [(read(TWO), Way())])

    def test_nothing_to_undo(self):
        session = Session(Loop.copying(), Way())
        with self.assertRaises(NothingToUndo):
            session.undo()
        for call in (
                lambda: session.change("tail", "row"), lambda: session.replace(0), lambda: session.attempt(0),
                lambda: session.change("bundles", ((0, 1),)), lambda: session.attempt([("change", ("ahead", 1)), ("undo", 0), ("undo", 0)])):
            with self.assertRaises((ValueError, LookupError)):
                call()
            with self.assertRaises(NothingToUndo) as caught:
                session.undo()
            self.assertIs(caught.exception.__class__, NothingToUndo)
        self.assertEqual(shown(session), (Loop.copying(), Way()))

    def test_verdict(self):
        session = Session(Loop.copying(), Way())
        self.assertEqual(session.verdict(), (2, 2, ("load", 0, 1, 0)))
        session.change("bundles", ((0, 0),))
        self.assertEqual(session.verdict(), None)
        for loop in drawn_loops(20, 3):
            for way in (Way(), Way(ahead=1), Way(tail="whole"), Way.careful(loop)):
                self.assertEqual(Session(loop, way).verdict(), first_wrong(loop, way))

    def test_many_deeds(self):
        session = Session(Loop.copying(), Way())
        for turn in range(2000):
            session.change("ahead", turn % 4)
        self.assertEqual(session.way.ahead, 3)
        self.assertEqual(len(all_states(session)), 2001)


class Attempts(Case):
    def test_results(self):
        session = Session(read(TWO), Way())
        other = read("line a 1\nf a@0\ng a@0")
        for kind in (list, tuple):
            told = session.attempt(kind([
                ("change", ("tail", "rest")), ("replace", other), ("undo", None), ("change", ("bundles", ((0, 1),)))]))
            self.assertEqual(told, (None,) * 4)
            self.assertIs(told.__class__, tuple)
        self.assertEqual(shown(session), (read(TWO), Way(tail="rest", bundles=((0, 1),))))
        self.assertEqual(all_states(session), [(read(TWO), way) for way in (
            Way(tail="rest", bundles=((0, 1),)), Way(tail="rest", bundles=((0, 1),)), Way(tail="rest", bundles=((0, 1),)),
            Way(tail="rest"), Way())])
        self.assertEqual([session.attempt([]), session.attempt(deeds=())], [(), ()])

    def test_undo_takes_any_object(self):
        session = Session(read(TWO), Way())
        for odd in ODD:
            session.attempt([("change", ("ahead", 1)), ("undo", odd)])
            self.assertEqual(shown(session), (read(TWO), Way()))

    def test_undo_behind_the_beginning(self):
        session = changed_thrice()
        states = all_states(changed_thrice())
        self.assertEqual(session.attempt([("undo", 0), ("change", ("guard", False)), ("undo", 0), ("undo", 0)]), (None,) * 4)
        self.assertEqual(shown(session), states[2])
        self.assertEqual(all_states(session), states[2:])

    def all_or_none(self, kind, field, deeds, make=changed_thrice):
        """The attempt raises this error, and the session is as before, what can be undone included."""
        session = make()
        with self.assertRaises(kind) as caught:
            session.attempt(deeds)
        self.assertIs(caught.exception.__class__, kind)
        if kind is not NothingToUndo:
            self.assertIs(caught.exception.value, field)
        self.assertEqual(all_states(session), all_states(make()))

    def test_all_or_none(self):
        begun = [("undo", 0), ("change", ("joining", "tree")), ("undo", 1), ("change", ("ahead", 2))]
        bundles, loop = ((0, 4),), Loop.copying()
        self.all_or_none(InvalidBundles, bundles, [*begun, ("change", ("bundles", bundles))])
        self.all_or_none(InvalidName, "x", [*begun, ("change", ("x", 1)), ("undo", 0)])
        self.all_or_none(InvalidPart, "tail", [*begun, ("change", ("tail", 1)), ("undo", 0)])
        self.all_or_none(InvalidLoop, loop, (("replace", loop),))
        self.all_or_none(InvalidLoop, None, (*begun, ("replace", None), ("change", ("x", 1))))
        self.all_or_none(NothingToUndo, None, [("undo", 0)] * 4)
        self.all_or_none(NothingToUndo, None, [*begun, *[("undo", 0)] * 4])
        for wrong in ODD:
            if not isinstance(wrong, Loop):
                self.all_or_none(InvalidLoop, wrong, [("undo", 0), ("replace", wrong)])
            self.all_or_none(InvalidName, wrong, [("undo", 0), ("change", (wrong, 1))])

    def test_what_else_is_wrong_comes_when_its_deed_is_performed(self):
        # The bundles go with the loop that is there by then.
        session = Session(Loop.copying(), Way())
        session.attempt([("replace", read(TWO)), ("change", ("bundles", ((0, 1),)))])
        self.assertEqual(session.way.bundles, ((0, 1),))
        self.all_or_none(InvalidPart, "tail", [("change", ("tail", 1)), ("replace", None), ("change", ("x", 1))])

    def test_commands(self):
        session = changed_thrice()
        before = shown(session)
        for wrong in NO_LISTS:
            self.refuses(InvalidCommand, wrong, session.attempt, wrong)
        for wrong in NO_DEEDS:
            for deeds in ([wrong], (("undo", 0), wrong), [("change", ("x", 1)), wrong, ("undo", 0)], [("replace", None), wrong]):
                self.refuses(InvalidCommand, deeds, session.attempt, deeds)
        self.assertEqual(shown(session), before)
        self.assertEqual(all_states(session), all_states(changed_thrice()))

    def test_against_single_deeds(self):
        draw = random.Random(9)
        loops = [Loop.copying(), read(TWO), Loop.summing(), read("line a 1\nf a@0\ng a@0\nh a@0")]
        done = 0
        for _ in range(300):
            one, other = Session(read(TWO), Way(bundles=((0, 0),))), Session(read(TWO), Way(bundles=((0, 0),)))
            for _ in range(4):
                deeds = [draw.choice((
                    ("undo", None), ("replace", draw.choice(loops)), ("change", ("tail", draw.choice(("mask", "rest", "x")))),
                    ("change", ("bundles", draw.choice(((), ((0, 1),), ((0, 0),), ((2, 2),))))))) for _ in range(draw.randint(0, 4))]
                before = list(other.kept_states)
                try:
                    for word, argument in deeds:
                        if word == "change":
                            other.change(*argument)
                        elif word == "undo":
                            other.undo()
                        else:
                            other.replace(argument)
                except (ValueError, LookupError) as error:
                    with self.assertRaises(error.__class__):
                        one.attempt(deeds)
                    other.kept_states = before
                else:
                    self.assertEqual(one.attempt(deeds), (None,) * len(deeds))
                    done += len(deeds)
                self.assertEqual(shown(one), shown(other))
            self.assertEqual(all_states(one), all_states(other))
        self.assertGreater(done, 300)


class Together(Case):
    def sessions(self, many=3):
        """Some sessions, each with something to undo."""
        made = [changed_thrice(), Session(Loop.copying(), Way()), Session(Loop.summing(), Way(tail="whole"))]
        made[2].change("ahead", 2)
        return made[:many]

    def unchanged(self, sessions):
        """All sessions are as they were made."""
        for one, other in zip(sessions, self.sessions()):
            self.assertEqual(all_states(one), all_states(other))

    def test_results(self):
        for kind in (list, tuple):
            one, two, three = self.sessions()
            told = together(kind([one, two, three]), kind([
                (2, "change", ("tail", "rest")), (0, "undo", 7), (1, "replace", read(TWO)), (1, "change", ("bundles", ((0, 1),))),
                (0, "undo", 8), (2, "undo", None)]))
            self.assertEqual(told, (None,) * 6)
            self.assertIs(told.__class__, tuple)
            self.assertEqual(shown(one), (read(TWO), Way(tail="rest")))
            self.assertEqual(shown(two), (read(TWO), Way(bundles=((0, 1),))))
            self.assertEqual(shown(three), (Loop.summing(), Way(tail="whole", ahead=2)))
            self.assertEqual([len(all_states(session)) for session in (one, two, three)], [2, 3, 2])

    def test_two_and_one(self):
        one, two = self.sessions(2)
        self.assertEqual(together(deeds=[(1, "change", ("ahead", 1))], sessions=[one, two]), (None,))
        self.assertEqual([one.way.ahead, two.way.ahead], [0, 1])
        self.assertEqual(together([two], [(0, "undo", 0)]), (None,))
        self.assertEqual(two.way.ahead, 0)

    def test_none(self):
        self.assertEqual([together([], []), together((), ()), together(self.sessions(), [])], [(), (), ()])
        for deeds in ([(0, "undo", 0)], ((-1, "undo", 0),)):
            self.refuses(InvalidCommand, deeds, together, [], deeds)

    def test_an_error_takes_back_all(self):
        begun = [
            (0, "undo", 0), (1, "change", ("ahead", 1)), (2, "replace", Loop.copying()), (2, "undo", 0), (2, "undo", 0),
            (0, "change", ("joining", "tree"))]
        bundles = ((1, 1),)
        for kind, field, last in (
                (InvalidLoop, 7, (1, "replace", 7)), (InvalidBundles, bundles, (1, "change", ("bundles", bundles))),
                (InvalidName, "x", (0, "change", ("x", 1))), (InvalidPart, "guard", (2, "change", ("guard", 1)))):
            sessions = self.sessions()
            self.refuses(kind, field, together, sessions, [*begun, last, (1, "undo", 0)])
            self.unchanged(sessions)
            sessions = self.sessions()
            self.refuses(kind, field, together, tuple(sessions), (last, *begun))
            self.unchanged(sessions)
        sessions = self.sessions()
        with self.assertRaises(NothingToUndo):
            together(sessions, [*begun, (2, "undo", 0)])
        self.unchanged(sessions)

    def test_commands(self):
        sessions = self.sessions()
        for wrong in NO_LISTS:
            self.refuses(InvalidCommand, wrong, together, sessions, wrong)
        for wrong in NO_DEEDS:
            for row in ((0, *wrong) if isinstance(wrong, tuple) else wrong, [0, wrong], (0, wrong)):
                if not (isinstance(row, tuple) and row[:2] in ((0, "undo"),) and len(row) == 3):
                    for deeds in ([row], ((0, "undo", 0), row), [(0, "change", ("x", 1)), row]):
                        self.refuses(InvalidCommand, deeds, together, sessions, deeds)
        for number in [-1, 3, GREAT, "0"] + odd_objects() + own_objects():
            for deeds in ([(number, "undo", 0)], ((0, "undo", 0), (number, "change", ("ahead", 1)))):
                self.refuses(InvalidCommand, deeds, together, sessions, deeds)
        deeds = [("undo", 0)]
        self.refuses(InvalidCommand, deeds, together, sessions, deeds)
        self.unchanged(sessions)

    def test_many_sessions(self):
        sessions = [Session(Loop.copying(), Way()) for _ in range(100)]
        together(sessions, [(at, "change", ("ahead", at % 4)) for at in range(100)])
        self.assertEqual([session.way.ahead for session in sessions], [0, 1, 2, 3] * 25)
        deeds = [(100, "undo", 0)]
        self.refuses(InvalidCommand, deeds, together, sessions, deeds)


if __name__ == "__main__":
    unittest.main()
