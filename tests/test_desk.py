"""The desk, [22]."""

import itertools
import random
import unittest
from fractions import Fraction

from bothwheels.desk import Desk
from bothwheels.errors import BadText, CanNot, NothingDone
from bothwheels.ladders import end_of, ladder
from tests.reckoning import pair, slow_common, slow_most, slow_together, slow_turning, steady
from tests.wrong import NOTHINGS


def written(fraction):
    """A FRACTION as it is answered."""
    above, below = fraction
    return f"{above}/{below}"


def wheel_line(name, wheel):
    return " ".join(["wheel", name] + [str(number) for number in wheel])


def refused(case, desk, text, line):
    """Checks that text is refused for this line, and that nothing is changed."""
    before = desk.twin()
    with case.assertRaises(BadText) as caught:
        desk.say(text)
    case.assertEqual(vars(caught.exception), {"line": line}, text)
    case.assertTrue(desk == before)


class Lines(unittest.TestCase):
    def setUp(self):
        self.desk = Desk()
        self.desk.say("wheel on 1 2 3\nwheel slip 0 0 3\nwheel pair 1 1\nwheel one 7")

    def said(self, text):
        return self.desk.say(text)

    def test_wheel(self):
        self.assertEqual(self.said("wheel a 5\nwheel b -1 -1\nwheel c 0 1 2 3"), ("done",) * 3)
        self.assertEqual([self.desk.wheel(name) for name in "abc"], [(5,), (-1, -1), (0, 1, 2, 3)])
        for numbers in ("2 1", "0 0 4", "0 3", "5 4 3", "0 1 2 9", "-1 -2"):
            self.assertEqual(self.said("wheel a " + numbers), ("no wheel",))
        self.assertEqual(self.desk.wheel("a"), (5,))
        self.assertEqual(self.said("wheel a 999999\nwheel b -999999 -999998"), ("done", "done"))
        self.assertEqual(self.said(wheel_line("great", steady(24, 0))), ("done",))
        self.assertEqual(self.desk.wheel("great"), steady(24, 0))

    def test_the_name_may_be_any_word_of_the_table(self):
        for name in ("wheel", "drop", "tooth", "turn", "train", "end", "most", "names", "more", "less", "done", "none", "abcdefghijkl", "z"):
            self.assertEqual(self.said(f"wheel {name} 3\nturn {name}\ntrain {name} one\ndrop {name}\ndrop {name}"), (
                "done", "3/1", "10/1", "done", "no name",
            ))

    def test_drop(self):
        self.assertEqual(self.said("drop on\ndrop on\nturn on\nnames"), ("done", "no name", "no name", "one, pair, slip"))
        self.assertRaises(CanNot, self.desk.wheel, "on")

    def test_tooth(self):
        self.assertEqual(self.said("tooth slip 1 more"), ("done",))
        self.assertEqual(self.desk.wheel("slip"), (0, 1, 3))
        self.assertEqual(self.said("tooth slip 1 less\ntooth slip 1 less"), ("done", "no tooth"))
        self.assertEqual(self.desk.wheel("slip"), (0, 0, 3))
        self.assertEqual(self.said("tooth slip 3 more\ntooth slip -1 more\ntooth slip 999999 less\ntooth slip 2 more"), ("no tooth",) * 4)
        self.assertEqual(self.said("tooth away 0 more\ntooth away 9 less\ntooth away -1 more"), ("no name",) * 3)
        self.assertEqual(self.said("tooth one 0 more\ntooth one 0 more\ntooth one 0 less\ntooth one 1 less"), ("done",) * 3 + ("no tooth",))
        self.assertEqual(self.desk.wheel("one"), (8,))
        self.assertEqual(self.said("tooth slip 0 less\ntooth slip 0 less"), self.slow_teeth((0, 0, 3), 0, -1, 2))

    def slow_teeth(self, wheel, place, way, many):
        """The answers to the same TOOTH, again and again, by the tests' own look at the numbers."""
        found = []
        for k in range(many):
            behind = list(wheel)
            behind[place] += way
            told = behind + [behind[0] + len(behind)]
            good = all([a <= b for a, b in zip(told, told[1:])])
            found.append("done" if good else "no tooth")
            wheel = behind if good else wheel
        return tuple(found)

    def test_all_teeth(self):
        for wheel in ((0, 0, 3), (1, 2, 3), (1, 1, 1), (-1, 0, 2), (5,), (0, 2)):
            for place in range(-1, len(wheel) + 1):
                for word, way in (("more", 1), ("less", -1)):
                    desk = Desk()
                    told = desk.say(wheel_line("a", wheel) + f"\ntooth a {place} {word}")[1]
                    if not 0 <= place < len(wheel):
                        self.assertEqual(told, "no tooth")
                        continue
                    self.assertEqual((told,), self.slow_teeth(wheel, place, way, 1))
                    behind = tuple([own + way if at == place and told == "done" else own for at, own in enumerate(wheel)])
                    self.assertEqual(desk.wheel("a"), behind)

    def test_turn_train_end_most(self):
        draw = random.Random(391)
        for k in range(60):
            desk, places, wheels = Desk(), draw.randrange(1, 7), []
            for name in "abcde"[:draw.randrange(1, 6)]:
                first = draw.randrange(-9, 10)
                wheels.append((first,) + tuple(sorted([first + draw.randrange(places + 1) for at in range(places - 1)])))
                self.assertEqual(desk.say(wheel_line(name, wheels[-1])), ("done",))
            names = " ".join("abcde"[:len(wheels)])
            turns = [pair(slow_turning(wheel)) for wheel in wheels]
            self.assertEqual([desk.say("turn " + name)[0] for name in names.split(" ")], [written(own) for own in turns])
            self.assertEqual(desk.say("train " + names), (written(pair(slow_turning(slow_together(wheels)))),))
            self.assertEqual(desk.say("end " + names), (written(end_of(ladder(wheels))),))
            if slow_common(turns) <= 2000:
                self.assertEqual(desk.say("most " + names), (written(pair(slow_most(turns))),))
            self.assertRaises(NothingDone, desk.redo)

    def test_in_the_order_of_the_names(self):
        self.said("wheel fast 1 3 3 5\nwheel slow 0 0 0 4")
        self.assertEqual(self.said("train fast slow\ntrain slow fast\nend fast slow\nend slow fast"), ("0/1", "0/1", "1/1", "1/1"))
        self.assertEqual(self.said("train slip on\ntrain on slip\ntrain on on on\ntrain on on on on on"), ("0/1", "0/1", "1/1", "5/3"))

    def test_below_0(self):
        self.said("wheel back -3 -2 0\nwheel half -1 -1")
        self.assertEqual(self.said("turn back\nturn half\nmost back\nmost half half\nend half"), ("-1/1", "-1/1", "-1/1", "-1/1", "-1/1"))

    def test_rings_of_several_sizes(self):
        for word in ("train", "end"):
            self.assertEqual(self.said(f"{word} on pair\n{word} pair on\n{word} one on\n{word} on on one"), ("rings",) * 4)
            self.assertEqual(self.said(f"{word} on away\n{word} away pair\n{word} on pair away\n{word} away"), ("no name",) * 4)
        # MOST asks for no ring.
        self.assertEqual(self.said("most on pair\nmost one on\nmost on away\nmost away"), (
            written(pair(slow_most(((1, 3), (0, 1))))), written(pair(slow_most(((7, 1), (1, 3))))), "no name", "no name",
        ))

    def test_many(self):
        told = [wheel_line(name, steady(places, 1)) for name, places in (("a", 24), ("b", 23), ("c", 7), ("d", 11), ("e", 2))]
        self.assertEqual(self.said("\n".join(told)), ("done",) * 5)
        self.assertEqual(self.said("most a b c\nmost a b d\nmost a b c d"), ("many",) * 3)
        self.assertEqual(self.said("most a b"), (written(pair(slow_most(((1, 24), (1, 23))))),))
        self.assertEqual(self.said("most a b c away"), ("no name",))
        self.assertEqual(self.said("most b c d"), (written(pair(slow_most(((1, 23), (1, 7), (1, 11))))),))
        self.assertEqual(slow_common(((1, 23), (1, 7), (1, 11))), 1771)

    def test_names(self):
        self.assertEqual(Desk().say("names\nnames"), ("none", "none"))
        self.assertEqual(self.said("names\nwheel a 1\nnames\ndrop on\nnames"), (
            "on, one, pair, slip", "done", "a, on, one, pair, slip", "done", "a, one, pair, slip",
        ))
        self.assertEqual(self.desk.names(), ("a", "one", "pair", "slip"))
        self.assertEqual(Desk().names(), ())

    def test_one_by_one_in_order(self):
        self.assertEqual(self.said("turn new\nwheel new 1 1\nturn new\nwheel new 2 3\nturn new\ndrop new\nturn new"), (
            "no name", "done", "0/1", "done", "1/1", "done", "no name",
        ))


class NoLines(unittest.TestCase):
    WRONG = (
        "", " ", "name", "names ", " names", "names on", "Names", "names\t", "wheel", "wheel a", "wheel a ", "wheel 1 2", "wheel  a 1",
        "wheel a  1", " wheel a 1", "wheel a 1 ", "wheel A 1", "wheel a1 1", "wheel a-b 1", "wheel abcdefghijklm 1", "wheel a 01", "wheel a -0",
        "wheel a 00", "wheel a -01", "wheel a +1", "wheel a 1000000", "wheel a -1000000", "wheel a 1/2", "wheel a x", "wheel a 1 x", "wheel a --1",
        "wheel a -", "wheel a 1.0", "wheel a 1,2", "wheel a " + " ".join(["0"] * 25), "drop", "drop ", "drop a b", "drop 1", "drop a ", "dropa",
        "tooth a 0", "tooth a more", "tooth a 0 most", "tooth a 0 More", "tooth a 0 1", "tooth a 00 more", "tooth a 0 more less", "tooth 0 a more", "tooth A 0 more", "tooth a1 0 less",
        "tooth abcdefghijklm 0 more", "tooth  0 more",
        "tooth a x less", "tooth a 1000000 less", "tooth a 0  more", "tooth", "turn", "turn a b", "turn A", "turn ", "train", "train ",
        "train a b c d e f", "train a 1", "train a  b", "end", "end a b c d e f", "end -", "most", "most a b c d e f", "most a,b", "most a abcdefghijklm",
        "undo", "wheels a 1", "ring 3", "wheel a 1 # remark", "# names", "most: a", "turn\ta", "\xe9", "wheel \xe9 1", "turn \u0661", "wheel a \u0661",
    )

    def test_what_is_none_of_the_table(self):
        for text in self.WRONG:
            desk = Desk()
            desk.say("wheel a 1\nwheel b 1 1")
            refused(self, desk, text, 0)

    def test_behind_lines_that_are_well_written(self):
        for text in self.WRONG:
            desk = Desk()
            desk.say("wheel a 1")
            for many in (1, 2, 5):
                refused(self, desk, "wheel a 2\n" * many + text, many)
                refused(self, desk, "drop a\n" * many + text + "\n" + self.WRONG[5] + "\nnames", many)
            self.assertEqual((desk.wheel("a"), desk.names()), ((1,), ("a",)))
            self.assertEqual(desk.undo(), 0)
            self.assertRaises(NothingDone, desk.undo)

    def test_a_line_break_at_the_end_begins_one_more(self):
        desk = Desk()
        refused(self, desk, "", 0)
        refused(self, desk, "\n", 0)
        refused(self, desk, "names\n", 1)
        refused(self, desk, "wheel a 1\n", 1)
        refused(self, desk, "wheel a 1\n\nwheel b 1", 1)
        refused(self, desk, "wheel a 1\nwheel b 1\n", 2)
        self.assertEqual(desk.names(), ())

    def test_just_within(self):
        desk = Desk()
        self.assertEqual(desk.say(wheel_line("abcdefghijkl", steady(24, -999999)) + "\ntrain" + " abcdefghijkl" * 5), ("done", written(
            pair(Fraction(-999999 * 5, 24)),
        )))
        self.assertEqual(desk.say("tooth abcdefghijkl 999999 more\ntooth abcdefghijkl -999999 less"), ("no tooth", "no tooth"))
        self.assertEqual(desk.say("end" + " abcdefghijkl" * 5), (written(pair(Fraction(-999999 * 5, 24))),))
        self.assertEqual(desk.say("most" + " abcdefghijkl" * 5), (written(pair(slow_most(((-333333, 8),) * 5))),))


class Named(unittest.TestCase):
    def test_what_stands_for_nothing(self):
        desk = Desk()
        desk.say("wheel a 1\nwheel b 2\ndrop b")
        for name in NOTHINGS + ["b", "A", "aa", "", " a", "a ", ["a"], ("a",), {"a"}, b"a", 0, "wheel", "a\n", 10 ** 30, [], (), [["a"]]]:
            if name != "a" or type(name) is not str:
                with self.assertRaises(CanNot) as caught:
                    desk.wheel(name)
                self.assertEqual((type(caught.exception), vars(caught.exception)), (CanNot, {}))
        self.assertEqual(desk.wheel("a"), (1,))
        self.assertEqual(desk.wheel(name="a"), (1,))
        self.assertRaises(CanNot, Desk().wheel, "a")

    def test_what_is_returned(self):
        desk = Desk()
        self.assertIs(type(desk.say("wheel b 1 2")), tuple)
        self.assertIs(type(desk.say(text="names")), tuple)
        self.assertIs(type(desk.names()), tuple)
        self.assertIs(type(desk.wheel("b")), tuple)
        desk.say("wheel a 5")
        self.assertEqual(desk.names(), ("a", "b"))


class UndoAndRedo(unittest.TestCase):
    def test_nothing_done(self):
        desk = Desk()
        self.assertRaises(NothingDone, desk.undo)
        self.assertRaises(NothingDone, desk.redo)
        for text in ("names", "wheel a 2 1", "drop a\ntooth a 0 more\nturn a\ntrain a\nend a\nmost a"):
            desk.say(text)
            self.assertRaises(NothingDone, desk.undo)
        desk.say("wheel a 1")
        self.assertRaises(NothingDone, desk.redo)
        self.assertEqual(desk.undo(), 0)
        self.assertRaises(NothingDone, desk.undo)
        self.assertEqual(desk.redo(), 1)
        self.assertRaises(NothingDone, desk.redo)

    def test_whole(self):
        desk = Desk()
        desk.say("wheel a 1\nwheel b 2\nwheel c 3 3 3\ndrop b\nturn b")
        desk.say("tooth a 0 more\nwheel d 1\nwheel e 2 1")
        self.assertEqual((desk.names(), desk.wheel("a")), (("a", "c", "d"), (2,)))
        self.assertEqual(desk.undo(), 2)
        self.assertEqual((desk.names(), desk.wheel("a")), (("a", "c"), (1,)))
        self.assertEqual(desk.undo(), 0)
        self.assertEqual((desk.redo(), desk.redo()), (2, 3))
        self.assertEqual((desk.names(), desk.wheel("a")), (("a", "c", "d"), (2,)))

    def test_a_say_that_does_nothing(self):
        desk = Desk()
        desk.say("wheel a 1")
        desk.say("wheel a 2")
        desk.undo()
        # It neither is taken back nor ends what could be done once more.
        desk.say("names\nturn a\nwheel a 2 1\ndrop b")
        self.assertRaises(BadText, desk.say, "wheel b 1\n")
        self.assertEqual((desk.redo(), desk.wheel("a")), (1, (2,)))
        desk.undo()
        self.assertEqual((desk.undo(), desk.names()), (0, ()))

    def test_a_say_that_does_something_ends_what_could_be_done_once_more(self):
        desk = Desk()
        desk.say("wheel a 1")
        desk.say("wheel b 1")
        desk.undo()
        desk.say("wheel c 1\nnames")
        self.assertRaises(NothingDone, desk.redo)
        self.assertEqual((desk.undo(), desk.names()), (1, ("a",)))
        self.assertEqual((desk.redo(), desk.names()), (2, ("a", "c")))

    def test_done_that_leaves_all_as_it_was_is_taken_back_too(self):
        desk = Desk()
        desk.say("wheel a 1")
        desk.say("wheel a 1")
        desk.say("wheel b 1\ndrop b")
        desk.say("tooth a 0 more\ntooth a 0 less")
        self.assertEqual([desk.undo() for k in range(4)], [1, 1, 1, 0])
        self.assertRaises(NothingDone, desk.undo)
        self.assertEqual([desk.redo() for k in range(4)], [1, 1, 1, 1])

    def test_answered_done_by_the_names(self):
        # The only NAME is "done": so a line names is answered, and the say can be taken back.
        desk = Desk()
        desk.say("wheel done 1")
        self.assertEqual(desk.say("names"), ("done",))
        self.assertEqual([desk.undo(), desk.undo()], [1, 0])
        self.assertRaises(NothingDone, desk.undo)

    def test_drawn(self):
        """Beside a history told out: all states, and which of them is now."""
        draw = random.Random(392)
        lines = ["wheel a 1", "wheel a 2", "wheel b 1 1", "drop a", "drop b", "tooth a 0 more", "tooth b 1 more", "names", "turn a", "wheel c 2 1"]
        for k in range(60):
            desk, states, now = Desk(), [{}], 0
            for step in range(40):
                kind = draw.randrange(4)
                if kind == 0:
                    self.moved(desk.undo, now > 0, lambda: len(states[now - 1]))
                    now = max(now - 1, 0)
                elif kind == 1:
                    self.moved(desk.redo, now + 1 < len(states), lambda: len(states[now + 1]))
                    now = min(now + 1, len(states) - 1)
                else:
                    text = draw.sample(lines, draw.randrange(1, 4))
                    told, state = self.worked(states[now], text)
                    self.assertEqual(desk.say("\n".join(text)), told)
                    if "done" in told:
                        states, now = states[:now + 1] + [state], now + 1
                self.assertEqual({name: desk.wheel(name) for name in desk.names()}, states[now])

    def moved(self, function, can, told):
        if can:
            self.assertEqual(function(), told())
        else:
            self.assertRaises(NothingDone, function)

    def worked(self, state, text):
        """The answers to these lines, and the WHEELS by names behind them."""
        state, told = dict(state), []
        for line in text:
            words = line.split(" ")
            if line == "names":
                told.append(", ".join(sorted(state)) or "none")
            elif line == "wheel c 2 1":
                told.append("no wheel")
            elif words[0] == "wheel":
                state[words[1]] = tuple([int(word) for word in words[2:]])
                told.append("done")
            elif words[1] not in state:
                told.append("no name")
            elif words[0] == "drop":
                del state[words[1]]
                told.append("done")
            elif words[0] == "turn":
                told.append(written(pair(slow_turning(state[words[1]]))))
            else:
                wheel = state[words[1]]
                wheel = wheel[:-1] + (wheel[-1] + 1,)
                good = wheel[-1] <= wheel[0] + len(wheel)
                told.append("done" if good else "no tooth")
                state[words[1]] = wheel if good else state[words[1]]
        return tuple(told), state


class TwinsAndEquals(unittest.TestCase):
    def test_equal_if_names_and_wheels_are(self):
        one, other = Desk(), Desk()
        self.assertTrue(one == other)
        self.assertIs(one == other, True)
        self.assertIs(one != other, False)
        one.say("wheel a 1\nwheel b 2 3")
        self.assertIs(one == other, False)
        self.assertIs(one != other, True)
        other.say("wheel b 2 3")
        self.assertIs(one == other, False)
        other.say("wheel a 1")
        self.assertTrue(one == other and not one != other)
        other.say("wheel a 2")
        self.assertTrue(one != other)
        other.undo()
        self.assertTrue(one == other)
        other.say("drop a\nwheel c 1")
        self.assertTrue(one != other)

    def test_it_is_none_of_other_things(self):
        desk = Desk()
        for thing in (None, {}, (), "", 0, [], object(), "desk"):
            self.assertFalse(desk == thing)
            self.assertTrue(desk != thing)

    def test_a_twin_goes_on_by_itself(self):
        desk = Desk()
        desk.say("wheel a 1")
        desk.say("wheel b 1")
        desk.say("wheel c 1")
        desk.undo()
        twin = desk.twin()
        self.assertTrue(twin == desk)
        self.assertIs(type(twin), Desk)
        self.assertEqual((twin.redo(), twin.names()), (3, ("a", "b", "c")))
        self.assertEqual(desk.names(), ("a", "b"))
        self.assertEqual([twin.undo() for k in range(3)], [2, 1, 0])
        self.assertRaises(NothingDone, twin.undo)
        self.assertEqual((desk.names(), desk.wheel("a")), (("a", "b"), (1,)))
        self.assertEqual((desk.redo(), desk.undo(), desk.undo(), desk.undo()), (3, 2, 1, 0))
        twin.say("wheel z 1")
        self.assertRaises(NothingDone, twin.redo)
        self.assertEqual((desk.redo(), desk.names(), twin.names()), (1, ("a",), ("z",)))

    def test_the_other_way_round(self):
        desk = Desk()
        desk.say("wheel a 1")
        twin = desk.twin()
        desk.say("tooth a 0 more\nwheel b 2")
        desk.undo()
        desk.undo()
        self.assertEqual((twin.names(), twin.wheel("a")), (("a",), (1,)))
        self.assertRaises(NothingDone, twin.redo)
        self.assertEqual((twin.undo(), twin.names()), (0, ()))
        self.assertEqual([own.twin() == own for own in (desk, twin)], [True, True])

    def test_desks_share_nothing(self):
        one, other = Desk(), Desk()
        one.say("wheel a 1")
        self.assertEqual(other.names(), ())
        self.assertRaises(NothingDone, other.undo)

    def test_asking_changes_nothing(self):
        desk = Desk()
        desk.say("wheel a 1\nwheel b 0 0")
        twin = desk.twin()
        for own in itertools.product(("names", "turn a", "train a b", "end a", "most a b", "drop c"), repeat=2):
            desk.say("\n".join(own))
        desk.names(), desk.wheel("a"), desk.twin()
        self.assertTrue(desk == twin)
        self.assertEqual(desk.undo(), 0)


if __name__ == "__main__":
    unittest.main()
