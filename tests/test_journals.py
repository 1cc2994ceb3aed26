"""Points 2 and 41: journals."""

import unittest

from recutkeys.errors import NoText
from recutkeys.halls import Hall
from recutkeys.halltexts import show_hall
from recutkeys.journals import read_walk, show_walk
from recutkeys.steps import steps
from recutkeys.walk import Walk
from tests.samples import ODD, Text, assert_same, great_hall, halls_and_stands, small_hall
from tests.test_walk import ACTS, START, act_on, told_of, walk_of

JOURNAL = """places 5
watched 2 4
room cave
room yard
door arch cave cave 1 2 3 4 0 asks
door gate cave yard 1 0 2 3 4 asks 2 0
door lift yard cave 0 1 3 2 4 asks 2 2 4 4
at cave 0 1 4 3 2
do arch forth
unask gate
do gate forth
recut lift 4 3 2 1 0
ask gate 2 1 4 4
wall arch
unask lift
do lift forth
ask gate
wall gate"""
ROWS = JOURNAL.split("\n")
AT = 7


def with_row(at, row):
    """The journal, one row exchanged."""
    return "\n".join(ROWS[:at] + [row] + ROWS[at + 1:])


def gone_on_with(rows):
    """A journal that begins with these rows, if any does."""
    rows = rows + ["places 5", "watched", "room a"][len(rows):]
    if not any(row.startswith("at ") for row in rows):
        places = int(rows[0].split(" ")[1])
        rows.append(" ".join(["at", rows[2].split(" ")[1], *[str(place) for place in range(places)]]))
    return "\n".join(rows)


class JournalCase(unittest.TestCase):
    def assert_refused(self, text, row):
        with self.subTest(text):
            with self.assertRaises(NoText) as caught:
                read_walk(text)
            assert_same(self, caught.exception.row, row)

    def assert_read(self, text):
        walk = read_walk(text)
        self.assertIs(type(walk), Walk)
        assert_same(self, show_walk(walk), text)
        return walk

    def check(self, text):
        """What is read shows just the text; a refused row is the first with which no journal goes on."""
        try:
            self.assertEqual(show_walk(read_walk(text)), text)
            return
        except NoText as refusal:
            row = refusal.row
        rows = text.split("\n")
        self.assertLessEqual(row, len(rows))
        self.assert_read(gone_on_with(rows[:row]))
        if row < len(rows):
            # With whatever rows behind it.
            for more in ([], ["at cave 0 1 2 3 4"], ["room zoo"], ROWS[row + 1:]):
                self.assert_refused("\n".join(rows[:row + 1] + more), row)


class ShownAndReadTest(JournalCase):
    def test_shown(self):
        for many in range(len(ACTS) + 1):
            assert_same(self, show_walk(walk_of(many)), "\n".join(ROWS[:AT + 1 + many]))

    def test_read(self):
        for many in range(len(ACTS) + 1):
            walk = self.assert_read("\n".join(ROWS[:AT + 1 + many]))
            self.assertEqual(walk, walk_of(many))
            self.assertEqual(told_of(walk), told_of(walk_of(many)))
            assert_same(self, walk.acts(), ACTS[:many])
            assert_same(self, walk.stand_at(moment=0), START)
            self.assertEqual(walk.hall_at(moment=0), small_hall())

    def test_a_walk_without_acts(self):
        hall = Hall(2, (), ("a",), [])
        assert_same(self, show_walk(Walk(hall, ("a", (1, 0)))), "places 2\nwatched\nroom a\nat a 1 0")
        walk = self.assert_read("places 2\nwatched\nroom a\nat a 1 0")
        self.assertEqual(walk, Walk(hall, ("a", (1, 0))))

    def test_taken_back(self):
        walk = walk_of()
        for many in reversed(range(len(ACTS))):
            walk.back()
            text = show_walk(walk)
            assert_same(self, text, "\n".join(ROWS[:AT + 1 + many]))
            read = self.assert_read(text)
            self.assertEqual(read, walk)
            # What was taken back isn't there to be done again.
            with self.assertRaises(LookupError):
                read.on()
        walk.on()
        assert_same(self, show_walk(walk), "\n".join(ROWS[:AT + 2]))

    def test_the_first_hall_and_stand(self):
        # What is changed by acts is told by the acts alone.
        walk = walk_of()
        self.assertTrue(show_walk(walk).startswith(show_hall(small_hall()) + "\nat cave 0 1 4 3 2\n"))

    def test_all_halls(self):
        for hall, stand in halls_and_stands() + [(great_hall(), ("raa", tuple(range(12))))]:
            walk = Walk(hall, stand)
            for number in range(16):
                can, doors = steps(walk.hall_at(), walk.stand_at()), walk.hall_at().doors()
                if number % 2 and can:
                    walk.do(can[number % len(can)])
                elif doors:
                    door = doors[number * 7 % len(doors)]
                    asks = tuple((mark, number % hall.places()) for mark in hall.watched())
                    cut = tuple(reversed(range(hall.places())))
                    act_on(walk, [("unask", door), ("recut", door, cut), ("ask", door, asks), ("wall", door)][
                        number // 2 % 4])
                read = self.assert_read(show_walk(walk))
                self.assertEqual(read, walk)
            self.assertEqual(told_of(read), told_of(walk))

    def test_names_that_are_words_of_the_texts(self):
        doors = [("do", "at", "wall", (1, 0), ()), ("ask", "wall", "at", (0, 1), [(0, 1)])]
        doors.append(("forth", "at", "at", (0, 1), ()))
        walk = Walk(Hall(2, (0,), ("at", "wall", "asks", "room"), doors), ("at", (1, 0)))
        for act in [("do", ("do", "forth")), ("unask", "ask"), ("do", ("ask", "forth")), ("recut", "forth", (1, 0)),
                    ("ask", "ask", ((0, 1),)), ("ask", "do", ()), ("wall", "do")]:
            act_on(walk, act)
        text = "\n".join([
            "places 2", "watched 0", "room asks", "room at", "room room", "room wall", "door ask wall at 0 1 asks 0 1",
            "door do at wall 1 0 asks", "door forth at at 0 1 asks", "at at 1 0", "do do forth", "unask ask",
            "do ask forth", "recut forth 1 0", "ask ask 0 1", "ask do", "wall do",
        ])
        assert_same(self, show_walk(walk), text)
        self.assertEqual(self.assert_read(text), walk)

    def test_changes_to_what_is_there(self):
        # A door without asks unasked, the same cut, the same asks: they can be done, so they are acts.
        text = "\n".join(ROWS[:AT + 1] + ["unask arch", "recut gate 1 0 2 3 4", "ask gate 2 0", "ask arch", "ask arch"])
        self.assertEqual(self.assert_read(text).hall_at(), small_hall())

    def test_steps_back(self):
        self.assert_read("\n".join(ROWS[:AT + 1] + ["do arch back", "do arch forth"]))

    def test_many_acts(self):
        text = "\n".join(ROWS[:AT + 1] + ["do arch forth", "ask gate 2 1", "do arch back"] * 400)
        self.assertEqual(len(self.assert_read(text).acts()), 1200)
        self.assert_refused(text + "\ndo gate", AT + 1201)

    def test_read_walks_are_new_ones(self):
        one = read_walk(JOURNAL)
        one.back()
        self.assertEqual(read_walk(JOURNAL), walk_of())

    def test_told_are_just_the_told_kinds(self):
        walk = read_walk(Text(JOURNAL))
        assert_same(self, told_of(walk), told_of(walk_of()))
        assert_same(self, show_walk(walk), JOURNAL)

    def test_arguments_by_their_names(self):
        self.assertEqual(show_walk(walk=read_walk(text=JOURNAL)), JOURNAL)


class NoTextTest(JournalCase):
    def test_what_is_no_text(self):
        for thing in ODD + [ROWS, tuple(ROWS), walk_of(), small_hall(), 5]:
            if not isinstance(thing, str):
                self.assert_refused(thing, 0)

    def test_text_that_is_none_of_a_walk(self):
        for text in ["", " ", "\n", "\n" + JOURNAL, "cave", "at cave 0 1 4 3 2", "do gate forth"]:
            self.assert_refused(text, 0)

    def test_cut_within_the_hall_or_ahead_of_the_stand(self):
        # The row that is missing is the one behind the last.
        for many in range(1, AT + 1):
            self.assert_refused("\n".join(ROWS[:many]), many)
        self.assert_refused("places 2\nwatched\nroom a", 3)
        text = show_hall(great_hall())
        self.assert_refused(text, 34)
        self.assert_refused(text + "\n" + ROWS[4], 34)

    def test_rows_of_the_hall(self):
        for at, row, refused in [
            (0, "places 1", 0), (0, "places 13", 0), (0, "Places 5", 0), (0, "places 6", 4), (0, "", 0),
            (1, "watched 4 2", 1), (1, "watched 2 4 ", 1), (1, "watched 2", 6), (1, "", 1), (2, "room Cave", 2),
            (2, "at cave 0 1 4 3 2", 2), (2, "do arch forth", 2), (2, "room cav", 4), (3, "room cave", 3),
            (3, "room a", 3), (4, "door arch cave cave 1 2 3 4 4 asks", 4), (4, "door arch cave cave 1 2 3 4 0", 4),
            (4, "door gates cave cave 1 2 3 4 0 asks", 5), (5, "door gate cave yard 1 0 2 3 4 asks 4 4 2 0", 5),
            (5, "do arch forth", 5), (5, "", 5), (6, "wall gate", 6), (4, "unask arch", 4), (3, "ask gate", 3),
        ]:
            self.assert_refused(with_row(at, row), refused)

    def test_the_stands_row(self):
        for row in [
            "at", "at ", "at cave", "at cave ", "at cave 0 1 4 3", "at cave 0 1 4 3 2 2", "at cave 0 1 4 3 3",
            "at cave 0 1 4 3 5", "at cave 0 1 4 3 02", "at cave 0 1 4 3 -2", "at cave  0 1 4 3 2", "at  cave 0 1 4 3 2",
            " at cave 0 1 4 3 2", "at cave 0 1 4 3 2 ", "at cave 0 1  4 3 2", "At cave 0 1 4 3 2", "at Cave 0 1 4 3 2",
            "at attic 0 1 4 3 2", "at gate 0 1 4 3 2", "at 0 1 4 3 2", "at 0 1 4 3 2 cave", "cave 0 1 4 3 2", "",
            "stand cave 0 1 4 3 2", "do arch forth", "wall gate", "at cave 0,1,4,3,2", "at cave (0 1 4 3 2)",
            "door zoo cave yard 1 0 2 3 4", "room zoo",
        ]:
            self.assert_refused(with_row(AT, row), AT)

    def test_rows_of_acts(self):
        for row in [
            "", " ", "do", "do ", "do arch", "do arch ", "do arch forth ", "do  arch forth", "do arch  forth",
            " do arch forth", "do arch Forth", "do arch sideways", "do Arch forth", "do forth arch",
            "do arch forth back", "do nosuch forth", "do cave forth", "Do arch forth", "do gate forth",
            "do gate back", "do lift forth", "do lift back", "do arch, forth", "arch forth", "wall", "wall ",
            "wall  gate", "wall gate ", " wall gate", "wall cave", "wall nosuch", "wall gate lift", "wall Gate",
            "Wall gate", "walled gate", "unask", "unask ", "unask gate ", "unask  gate", "unask cave", "unask nosuch",
            "unask gate 2 0", "Unask gate", "unask gate asks", "recut", "recut gate", "recut gate ",
            "recut gate 1 0 2 3", "recut gate 1 0 2 3 4 5", "recut gate 1 0 2 3 3", "recut gate 1 0 2 3 5",
            "recut gate 1 0 2 3 04", "recut gate  1 0 2 3 4", "recut gate 1 0 2 3 4 ", "recut nosuch 1 0 2 3 4",
            "recut cave 1 0 2 3 4", "recut 1 0 2 3 4", "recut gate (0 1)", "recut 1 0 2 3 4 gate", "ask", "ask ",
            "ask gate ", "ask  gate", "ask gate 2", "ask gate 2 0 4", "ask gate 2 5", "ask gate 1 0",
            "ask gate 4 4 2 1", "ask gate 2 0 2 1", "ask gate 2 0 2 0", "ask gate 2  0", "ask gate 2 0 ",
            "ask gate 02 0", "ask gate 2 -1", "ask nosuch", "ask nosuch 2 0", "ask cave 2 0", "ask gate asks 2 0",
            "ask 2 0", "Ask gate", "at cave 0 1 4 3 2", "room zoo", "door zoo cave yard 1 0 2 3 4 asks", "places 5",
            "watched 2 4", "back", "on",
        ]:
            self.assert_refused(with_row(AT + 1, row), AT + 1)
            self.assert_refused("\n".join(ROWS[:AT + 1] + [row]), AT + 1)

    def test_acts_that_can_not_be_done_then(self):
        self.assert_refused(JOURNAL + "\nunask gate", len(ROWS))
        self.assert_refused(JOURNAL + "\nwall arch", len(ROWS))
        self.assert_refused(JOURNAL + "\ndo arch forth", len(ROWS))
        self.assert_refused(JOURNAL + "\nrecut gate 1 0 2 3 4", len(ROWS))
        self.assert_refused(JOURNAL + "\nask arch", len(ROWS))
        # Without the act that lets it be done.
        self.assert_refused("\n".join(ROWS[:8] + ROWS[10:]), 8)
        self.assert_refused("\n".join(ROWS[:10] + ROWS[11:]), 14)

    def test_rows_out_twice_or_exchanged(self):
        for at in range(len(ROWS)):
            self.check("\n".join(ROWS[:at] + ROWS[at + 1:]))
            self.check("\n".join(ROWS[:at] + [ROWS[at]] + ROWS[at:]))
            for other in range(at):
                rows = list(ROWS)
                rows[at], rows[other] = rows[other], rows[at]
                self.check("\n".join(rows))
            for other in range(len(ROWS) + 1):
                self.check("\n".join(ROWS[:other] + [ROWS[at]] + ROWS[other:]))

    def test_the_stand_twice(self):
        self.assert_refused("\n".join(ROWS[:AT + 1] + ROWS[AT:]), AT + 1)

    def test_two_asks_of_a_door_exchanged(self):
        self.assert_refused(JOURNAL.replace("ask gate 2 1 4 4", "ask gate 4 4 2 1"), 12)
        self.assert_refused(JOURNAL.replace("asks 2 2 4 4", "asks 4 4 2 2"), 6)

    def test_line_feeds_too_many(self):
        self.assert_refused(JOURNAL + "\n", len(ROWS))
        self.assert_refused(JOURNAL + "\n ", len(ROWS))
        self.assert_refused(JOURNAL.replace("\nat", "\n\nat"), AT)
        self.assert_refused(JOURNAL.replace("\ndo arch", "\n\ndo arch"), AT + 1)
        self.assert_refused(JOURNAL.replace("\n", "\r\n"), 0)

    def test_a_room_or_a_door_too_many(self):
        rows = show_hall(great_hall()).split("\n")
        start = "at raa 0 1 2 3 4 5 6 7 8 9 10 11"
        last = "door last raa raa 0 1 2 3 4 5 6 7 8 9 10 11 asks"
        self.assert_read("\n".join([*rows, start]))
        self.assert_refused("\n".join([*rows, last, start]), 34)
        self.assert_refused("\n".join([*rows[:10], "room zoo", *rows[10:], start]), 10)

    def test_each_sign(self):
        signs = " \n0124acdy"
        texts = [JOURNAL[:at] + JOURNAL[at + 1:] for at in range(len(JOURNAL))]
        texts += [JOURNAL[:at] + sign + JOURNAL[at:] for at in range(0, len(JOURNAL), 2) for sign in signs]
        texts += [JOURNAL[:at] + sign + JOURNAL[at + 1:] for at in range(1, len(JOURNAL), 2) for sign in signs]
        for text in texts:
            self.check(text)


if __name__ == "__main__":
    unittest.main()
