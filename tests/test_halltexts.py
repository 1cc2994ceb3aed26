"""Points 2 and 13: texts of halls."""

import unittest

from recutkeys.errors import NoText
from recutkeys.halls import Hall
from recutkeys.halltexts import read_hall, show_hall
from tests.samples import ODD, Text, assert_same, great_hall, letters, small_hall

SMALL = """places 5
watched 2 4
room cave
room yard
door arch cave cave 1 2 3 4 0 asks
door gate cave yard 1 0 2 3 4 asks 2 0
door lift yard cave 0 1 3 2 4 asks 2 2 4 4"""
ROWS = SMALL.split("\n")
FIRST_DOOR = 4


def with_row(at, row):
    """The small hall's text, one row exchanged."""
    return "\n".join(ROWS[:at] + [row] + ROWS[at + 1:])


def great_rows():
    """The rows of the greatest hall's text."""
    return show_hall(great_hall()).split("\n")


class HallTextCase(unittest.TestCase):
    def assert_refused(self, text, row):
        with self.subTest(text):
            with self.assertRaises(NoText) as caught:
                read_hall(text)
            assert_same(self, caught.exception.row, row)

    def assert_read(self, text):
        hall = read_hall(text)
        self.assertIs(type(hall), Hall)
        assert_same(self, show_hall(hall), text)
        return hall


class ShownAndReadTest(HallTextCase):
    def test_shown(self):
        assert_same(self, show_hall(small_hall()), SMALL)
        assert_same(self, show_hall(Hall(2, [], ["a"], [])), "places 2\nwatched\nroom a")
        assert_same(self, show_hall(Hall(12, [11], ["b", "a"], [])), "places 12\nwatched 11\nroom a\nroom b")

    def test_read(self):
        self.assertEqual(self.assert_read(SMALL), small_hall())
        self.assertEqual(self.assert_read("places 2\nwatched\nroom a"), Hall(2, [], ["a"], []))
        self.assertEqual(self.assert_read("places 12\nwatched 11\nroom a\nroom b"), Hall(12, [11], ["a", "b"], []))

    def test_the_greatest_hall(self):
        text = show_hall(great_hall())
        self.assertEqual(len(text.split("\n")), 2 + 8 + 24)
        self.assertEqual(self.assert_read(text), great_hall())

    def test_names_that_are_words_of_the_texts(self):
        stays = (0, 1, 2)
        doors = [("asks", "room", "door", stays, [(0, 1)]), ("forth", "door", "door", stays, [])]
        hall = Hall(3, [0], ["room", "door", "places", "watched"], doors)
        text = "\n".join([
            "places 3", "watched 0", "room door", "room places", "room room", "room watched",
            "door asks room door 0 1 2 asks 0 1", "door forth door door 0 1 2 asks",
        ])
        assert_same(self, show_hall(hall), text)
        self.assertEqual(self.assert_read(text), hall)
        self.assert_read("places 2\nwatched\nroom asks\nroom b\ndoor door asks b 0 1 asks")

    def test_asks_of_two_marks_at_one_place(self):
        self.assert_read(with_row(6, "door lift yard cave 0 1 3 2 4 asks 2 1 4 1"))

    def test_arguments_by_their_names(self):
        self.assertEqual(show_hall(hall=read_hall(text=SMALL)), SMALL)

    def test_text_of_a_class_made_from_it(self):
        hall = read_hall(Text(SMALL))
        assert_same(self, [hall.rooms(), hall.doors(), hall.door("gate")],
                    [["cave", "yard"], ["arch", "gate", "lift"], ("cave", "yard", (1, 0, 2, 3, 4), ((2, 0),))])

    def test_read_halls_are_new_ones(self):
        one = read_hall(SMALL)
        one.rooms().clear()
        self.assertEqual(one, read_hall(SMALL))
        self.assertIsNot(one, read_hall(SMALL))


class NoTextTest(HallTextCase):
    def test_what_is_no_text(self):
        for thing in ODD + [ROWS, tuple(ROWS), small_hall(), 5]:
            if not isinstance(thing, str):
                self.assert_refused(thing, 0)

    def test_text_that_is_none_of_a_hall(self):
        for text in ["", " ", "\n", "\n" + SMALL, "cave", "()", "gate forth"]:
            self.assert_refused(text, 0)

    def test_first_row(self):
        for row in [
            "places", "places ", "places 1", "places 0", "places 13", "places 05", "places +5", "places -5",
            "places 5 ",
            " places 5", "places  5", "places 5 5", "place 5", "Places 5", "places five", "places 5.",
            "places " + "9" * 6000,
            "watched 2 4", "room cave", "", "asks 5",
        ]:
            self.assert_refused(with_row(0, row), 0)

    def test_watched_row(self):
        for row in [
            "watched ", "watched  2 4", "watched 2  4", "watched 2 4 ", " watched 2 4", "watched 4 2", "watched 2 2",
            "watched 2 5", "watched 5", "watched -1", "watched 02 4", "watched 0 2 4", "watched two", "Watched 2 4", "",
            "room cave", "places 5", "watch 2 4", "watched 2,4",
        ]:
            self.assert_refused(with_row(1, row), 1)

    def test_room_rows(self):
        for row in [
            "room", "room ", "room  cave", "room cave ", " room cave", "room cave yard", "room Cave", "room cave1",
            "room cavecaves", "rooms cave", "room cav-e", "watched 2 4", "", ROWS[FIRST_DOOR],
        ]:
            self.assert_refused(with_row(2, row), 2)

    def test_second_room_row(self):
        for row in ["room cave", "room cav", "room a", "room", "", "room yard ", "watched"]:
            self.assert_refused(with_row(3, row), 3)

    def test_door_rows(self):
        for row in [
            "door gate cave yard 1 0 2 3 4", "door gate cave yard 1 0 2 3 4 asks ",
            "door gate cave yard 1 0 2 3 4 asks 2",
            "door gate cave yard 1 0 2 3 asks 2 0", "door gate cave yard 1 0 2 3 4 5 asks 2 0",
            "door gate cave yard 1 0 2 3 3 asks 2 0", "door gate cave yard 1 0 2 3 5 asks 2 0",
            "door gate cave yard 01 0 2 3 4 asks 2 0", "door gate cave yard 1 0 2 3 -4 asks 2 0",
            "door gate cave yard asks 1 0 2 3 4", "door gate cave 1 0 2 3 4 asks", "door cave yard 1 0 2 3 4 asks",
            "door gate cave attic 1 0 2 3 4 asks", "door gate attic yard 1 0 2 3 4 asks",
            "door gate gate cave 1 0 2 3 4 asks",
            "door cave cave yard 1 0 2 3 4 asks", "door yard cave yard 1 0 2 3 4 asks",
            "door arch cave yard 1 0 2 3 4 asks", "door ant cave yard 1 0 2 3 4 asks",
            "door Gate cave yard 1 0 2 3 4 asks", "door gategates cave yard 1 0 2 3 4 asks",
            "door  cave yard 1 0 2 3 4 asks",
            "door gate cave yard 1 0 2 3 4 asks 2 0 2 1", "door gate cave yard 1 0 2 3 4 asks 4 1 2 0",
            "door gate cave yard 1 0 2 3 4 asks 2 0 4 1 2 0", "door gate cave yard 1 0 2 3 4 asks 1 0",
            "door gate cave yard 1 0 2 3 4 asks 2 5", "door gate cave yard 1 0 2 3 4 asks 2 -1",
            "door gate cave yard 1 0 2 3 4 asks 02 0", "door gate cave yard 1 0 2 3 4 asks 2 00",
            "door gate cave yard 1 0 2 3 4 asks  2 0", "door gate cave yard 1 0 2 3 4 asks 2 0 ",
            " door gate cave yard 1 0 2 3 4 asks 2 0", "door gate  cave yard 1 0 2 3 4 asks 2 0",
            "door gate cave yard 1 0 2 3 4 Asks 2 0", "door gate cave yard 1 0 2 3 4 2 0",
            "doors gate cave yard 1 0 2 3 4 asks",
            "door", "door ", "", "room zoo", "watched 2 4", "places 5",
        ]:
            self.assert_refused(with_row(5, row), 5)

    def test_rows_twice(self):
        for at, row in enumerate(ROWS):
            self.assert_refused("\n".join(ROWS[:at + 1] + [row] + ROWS[at + 1:]), at + 1)

    def test_rows_exchanged(self):
        for at in range(len(ROWS) - 1):
            rows = ROWS[:at] + [ROWS[at + 1], ROWS[at]] + ROWS[at + 2:]
            # A greater row may stand where a lesser one was; then the lesser one comes too late.
            self.assert_refused("\n".join(rows), at if at in (0, 1) else at + 1)

    def test_rows_out(self):
        self.assert_refused("\n".join(ROWS[1:]), 0)
        self.assert_refused("\n".join(ROWS[:1] + ROWS[2:]), 1)
        self.assert_refused("\n".join(ROWS[:2] + ROWS[4:]), 2)
        # The first door between cave and yard is then the first row that isn't of a hall.
        self.assert_refused("\n".join(ROWS[:2] + ROWS[3:]), 3)
        self.assert_refused("\n".join(ROWS[:3] + ROWS[4:]), 4)
        for at in (4, 5, 6):
            self.assert_read("\n".join(ROWS[:at] + ROWS[at + 1:]))

    def test_rows_that_end_too_early(self):
        self.assert_refused("places 5", 1)
        self.assert_refused("places 5\nwatched 2 4", 2)
        for many in (3, 4, 5, 6):
            self.assert_read("\n".join(ROWS[:many]))

    def test_line_feeds_too_many(self):
        self.assert_refused("places 5\n", 1)
        self.assert_refused("places 5\nwatched\n", 2)
        self.assert_refused(SMALL + "\n", 7)
        self.assert_refused(SMALL + "\n\n", 7)
        self.assert_refused(SMALL + "\n ", 7)
        self.assert_refused(SMALL.replace("\n", "\n\n"), 1)

    def test_the_first_wrong_row_is_told(self):
        self.assert_refused(with_row(2, "room").replace("places 5", "places 1"), 0)
        self.assert_refused(with_row(3, "room a") + "\nroom", 3)

    def test_places_that_the_doors_do_not_have(self):
        self.assert_refused(with_row(0, "places 6"), 4)
        self.assert_refused(with_row(0, "places 4"), 1)
        self.assert_refused(with_row(1, "watched 2"), 6)
        self.assert_refused(with_row(1, "watched 3"), 5)


class OneTooManyTest(HallTextCase):
    def test_one_room_too_many(self):
        rows = great_rows()
        self.assert_refused("\n".join(rows[:10] + ["room zoo"] + rows[10:]), 10)
        self.assert_refused("\n".join(rows[:10] + ["room zoo"]), 10)

    def test_one_door_too_many(self):
        rows = great_rows()
        self.assert_refused("\n".join(rows + ["door last raa raa 0 1 2 3 4 5 6 7 8 9 10 11 asks"]), 34)
        self.assert_read("\n".join(rows[:-1] + ["door last raa raa 0 1 2 3 4 5 6 7 8 9 10 11 asks"]))

    def test_one_watched_mark_too_many(self):
        rows = great_rows()
        self.assert_refused("\n".join([rows[0], "watched 9 10 11"] + rows[2:]), 1)

    def test_one_place_too_many(self):
        self.assert_refused("\n".join(["places 13"] + great_rows()[1:]), 0)


class EachSignTest(HallTextCase):
    def test_each_text_is_read_as_it_is_written_or_refused(self):
        signs = " \n0125acy"
        texts = [SMALL[:at] + sign + SMALL[at + more:] for at in range(len(SMALL)) for sign in signs for more in (0, 1)]
        texts += [SMALL[:at] + SMALL[at + 1:] for at in range(len(SMALL))]
        for text in texts:
            self.check(text)

    def check(self, text):
        """What is read shows just the text; a refused row is the first that no hall's text goes on with."""
        try:
            self.assertEqual(show_hall(read_hall(text)), text)
        except NoText as refusal:
            rows = text.split("\n")
            self.assertLessEqual(refusal.row, len(rows))
            self.assert_goes_on(rows[:refusal.row])
            if refusal.row < len(rows):
                self.assert_refused("\n".join(rows[:refusal.row + 1] + ["room " + letters(1, "z")]), refusal.row)

    def assert_goes_on(self, rows):
        """There is a hall's text that begins with these rows."""
        missing = ["places 5", "watched", "room a"]
        self.assert_read("\n".join(rows + missing[len(rows):]))


if __name__ == "__main__":
    unittest.main()
