"""Points 2 and 3 over the whole interface: its names and arguments, the askers' own answers, plain kinds."""

import copy
import unittest
from importlib import import_module
from inspect import signature

from recutkeys import bounds, errors
from recutkeys.fences import fence
from recutkeys.fewest import fewest_paper
from recutkeys.halls import Hall
from recutkeys.halltexts import show_hall
from recutkeys.journals import show_walk
from recutkeys.lots import lot_paper
from recutkeys.tables import tables_of
from recutkeys.telling import full
from recutkeys.together import together
from recutkeys.walk import Walk
from tests.samples import Number, Row, Text, assert_just, halls_and_stands

HALL, STAND = halls_and_stands()[6]
OTHER = ("yard", (1, 2, 4, 3, 0))
TURN = (1, 2, 0, 4, 3)
WAY = (("arch", "forth"), ("arch", "back"))
ROWS = [[("arch", "forth")], [(0, "forth"), (0, "back")]]
TABLES = tables_of((0, 1, 2, 3, 4), [(1, 2, 3, 4, 0)])
ATTIC = Hall(5, (2,), ["attic"], [])
LOT = ("gate", "lift")

# Each function by its file: its arguments as the interface has them, and with what it is asked here.
FUNCTIONS = [
    ("arrangements", "is_arrangement", "places, thing", [5, TURN]),
    ("arrangements", "behind", "one, other", [TURN, (4, 3, 2, 1, 0)]),
    ("arrangements", "undone", "one", [TURN]),
    ("arrangements", "again", "one, times", [TURN, -4]),
    ("arrangements", "rounds_of", "one", [TURN]),
    ("arrangements", "how_often", "one", [TURN]),
    ("arrangements", "is_even", "one", [TURN]),
    ("arrangements", "show_arrangement", "one", [TURN]),
    ("arrangements", "read_arrangement", "places, text", [5, "(0 1 2)(3 4)"]),
    ("halltexts", "show_hall", "hall", [HALL]),
    ("halltexts", "read_hall", "text", [show_hall(HALL)]),
    ("stands", "is_stand", "hall, thing", [HALL, STAND]),
    ("stands", "is_split", "hall, thing", [HALL, ("cave", (2,))]),
    ("stands", "split", "hall, stand", [HALL, STAND]),
    ("stands", "brings", "key, other", [TURN, (4, 3, 2, 1, 0)]),
    ("steps", "steps", "hall, stand", [HALL, STAND]),
    ("steps", "done", "hall, stand, step", [HALL, STAND, ("arch", "forth")]),
    ("ways", "played", "hall, stand, way", [HALL, STAND, WAY]),
    ("ways", "made", "hall, stand, way", [HALL, STAND, WAY[:1]]),
    ("ways", "way_back", "way", [WAY]),
    ("ways", "show_way", "way", [WAY]),
    ("ways", "read_way", "text", ["gate forth, gate back"]),
    ("rows", "is_rows", "thing", [ROWS]),
    ("rows", "many_steps", "rows", [ROWS]),
    ("rows", "unrolled", "rows, *, most=2000", [ROWS, 7]),
    ("rows", "gone", "hall, spot, rows", [HALL, ("cave", (2,)), ROWS]),
    ("rows", "comes_to", "hall, stand, rows, other", [HALL, STAND, ROWS, STAND]),
    ("tables", "are_tables", "places, thing", [5, TABLES]),
    ("tables", "sifts", "tables, one", [TABLES, (1, 2, 3, 4, 0)]),
    ("tables", "tables_of", "order, some", [(4, 2, 0, 1, 3), [TURN]]),
    ("tables", "many_in", "tables", [TABLES]),
    ("parts", "part", "hall, stand", [HALL, STAND]),
    ("parts", "tree_way", "hall, stand, spot", [HALL, STAND, ("yard", (1,))]),
    ("parts", "loops", "hall, stand", [HALL, STAND]),
    ("fences", "is_fence", "hall, stand, thing", [HALL, STAND, fence(HALL, STAND)]),
    ("fences", "bars", "hall, stand, fence, other", [HALL, STAND, fence(HALL, STAND), OTHER]),
    ("fences", "fence", "hall, stand", [HALL, STAND]),
    ("fences", "walked", "hall, stand, fence, way", [HALL, STAND, fence(HALL, STAND), WAY[:1]]),
    ("telling", "way_to", "hall, stand, other", [HALL, STAND, OTHER]),
    ("telling", "full", "hall, stand", [HALL, STAND]),
    ("telling", "is_full", "hall, stand, thing", [HALL, STAND, full(HALL, STAND)]),
    ("counts", "home_many", "hall, stand", [HALL, STAND]),
    ("counts", "many_at", "hall, stand, room", [HALL, STAND, "yard"]),
    ("counts", "many_stands", "hall, stand", [HALL, STAND]),
    ("counts", "key_at", "hall, stand, room, number", [HALL, STAND, "yard", 5]),
    ("counts", "number_of", "hall, stand, room, key", [HALL, STAND, "cave", STAND[1]]),
    ("marks", "places_of", "hall, stand, mark", [HALL, STAND, 2]),
    ("marks", "pairs_of", "hall, stand, one, other", [HALL, STAND, 2, 4]),
    ("sights", "seen_many", "hall, stand, room, sights", [HALL, STAND, "yard", [(0, 1)]]),
    ("sights", "seen_first", "hall, stand, room, sights", [HALL, STAND, "yard", [(0, 1)]]),
    ("sights", "sure", "hall, stand, room, sights", [HALL, STAND, "yard", [(0, 1), (2, 3), (1, 2)]]),
    ("sights", "clash", "hall, stand, room, sights", [HALL, STAND, "yard", [(0, 1), (2, 1)]]),
    ("together", "together", "hall, stand, one, other", [HALL, STAND, 3, 0]),
    ("together", "is_together", "hall, stand, one, other, thing", [HALL, STAND, 3, 0, together(HALL, STAND, 3, 0)]),
    ("looks", "looks", "hall, stand, room, colours, *, most=2000", [HALL, STAND, "yard", [1, 1, 2, 2, 3], 600]),
    ("fewest", "fewest", "hall, stand, other, *, most=2000", [HALL, STAND, OTHER, 500]),
    ("fewest", "fewest_paper", "hall, stand, other, *, most=2000", [HALL, STAND, OTHER, 500]),
    ("fewest", "is_fewest", "hall, stand, other, thing", [HALL, STAND, OTHER, fewest_paper(HALL, STAND, OTHER)]),
    ("changes", "walled", "hall, door", [HALL, "gate"]),
    ("changes", "unasked", "hall, door", [HALL, "gate"]),
    ("changes", "recut", "hall, door, cut", [HALL, "gate", TURN]),
    ("changes", "reasked", "hall, door, asks", [HALL, "gate", [(2, 3)]]),
    ("changes", "renamed", "hall, names", [HALL, {"gate": "cave", "cave": "gate"}]),
    ("changes", "marks_turned", "hall, marks", [HALL, TURN]),
    ("changes", "places_turned", "hall, places", [HALL, TURN]),
    ("changes", "renamed_stand", "names, stand", [{"cave": "yard", "yard": "cave"}, STAND]),
    ("changes", "marks_turned_stand", "marks, stand", [TURN, STAND]),
    ("changes", "places_turned_stand", "places, stand", [TURN, STAND]),
    ("changes", "joined", "one, other, door", [HALL, ATTIC, ("stairs", "yard", "attic", TURN, [(2, 1)])]),
    ("lots", "lots", "hall, stand, other, word", [HALL, STAND, OTHER, "ask"]),
    ("lots", "lot_paper", "hall, stand, other, word, lot", [HALL, STAND, OTHER, "wall", LOT]),
    ("lots", "lot_holds", "hall, stand, other, word, lot, thing",
     [HALL, STAND, OTHER, "wall", LOT, lot_paper(HALL, STAND, OTHER, "wall", LOT)]),
    ("lots", "covers", "names, does, fails", [["b", "a"], [("a",)], [("b",)]]),
    ("boards", "board", "places, pairs, empty", [4, [(1, 0), (1, 3)], 2]),
    ("boards", "board_way", "pairs, first, moves", [[(1, 0), (1, 3)], 3, [1, 0]]),
    ("journals", "show_walk", "walk", [Walk(HALL, STAND)]),
    ("journals", "read_walk", "text", [show_walk(Walk(HALL, STAND)) + "\ndo arch forth"]),
]

# Each method by its class, likewise.
METHODS = [
    (Hall, "__init__", "self, places, watched, rooms, doors"),
    (Hall, "__eq__", "self, other"), (Hall, "__len__", "self"), (Hall, "places", "self"), (Hall, "watched", "self"),
    (Hall, "rooms", "self"), (Hall, "doors", "self"), (Hall, "door", "self, name"),
    (Walk, "__init__", "self, hall, stand"), (Walk, "__eq__", "self, other"), (Walk, "do", "self, step"),
    (Walk, "wall", "self, door"), (Walk, "unask", "self, door"), (Walk, "recut", "self, door, cut"),
    (Walk, "ask", "self, door, asks"), (Walk, "acts", "self"), (Walk, "hall_at", "self, *, moment=None"),
    (Walk, "stand_at", "self, *, moment=None"), (Walk, "back", "self"), (Walk, "on", "self"),
    (Walk, "can", "self, other"), (Walk, "many", "self"), (Walk, "way_home", "self"),
]

# Each refusal, the error of Python's own straight above it, and its fields.
REFUSALS = [
    ("NoText", ValueError, ["row"]), ("NoStep", ValueError, ["why"]), ("NoWay", ValueError, ["at", "why"]),
    ("NoMove", ValueError, ["at"]), ("NoName", KeyError, ["asked"]), ("NoPart", KeyError, ["asked"]),
    ("NoNumber", IndexError, ["asked"]), ("NoMoment", IndexError, ["asked"]), ("NoMore", LookupError, ["word"]),
    ("TooMany", OverflowError, ["most"]),
]

BOUNDS = {
    "MOST_PLACES": 12, "MOST_WATCHED": 2, "MOST_ROOMS": 8, "MOST_DOORS": 24, "MOST_ROWS": 400, "MOST_LOTS": 6,
    "MOST_SPOTS": 2000,
}

# Of these anything may be asked, so what isn't just of the told kinds is another question.
OF_ANYTHING = ["thing"]


def names_in(arguments):
    """The names of arguments, and how many of them stand ahead of a star."""
    words = [word.split("=")[0] for word in arguments.split(", ")]
    ahead = words.index("*") if "*" in words else len(words)
    return [word for word in words if word != "*"], ahead


def called(module, name):
    """The function of a file."""
    return getattr(import_module("recutkeys." + module), name)


def shown(thing):
    """What is told, with halls and walks in it by their texts."""
    if isinstance(thing, (Hall, Walk)):
        return [show_hall(thing)] if isinstance(thing, Hall) else [show_walk(thing), thing.acts()]
    if isinstance(thing, dict):
        return {key: shown(value) for key, value in thing.items()}
    return type(thing)([shown(part) for part in thing]) if isinstance(thing, (list, tuple)) else thing


def spoil(thing):
    """Empty each list and dict, and make each hall and walk another one."""
    if isinstance(thing, Hall):
        thing.__init__(2, (), ["z"], [])
    if isinstance(thing, Walk):
        thing.__init__(Hall(2, (), ["z"], []), ("z", (0, 1)))
    for part in list(thing) if isinstance(thing, (list, tuple, dict)) else []:
        spoil(part)
    if isinstance(thing, (list, dict)):
        thing.clear()


def dressed(thing):
    """The same of classes made from the told kinds."""
    if isinstance(thing, dict):
        return {dressed(key): dressed(value) for key, value in thing.items()}
    if isinstance(thing, list):
        return [dressed(part) for part in thing]
    if isinstance(thing, tuple):
        return Row([dressed(part) for part in thing])
    if isinstance(thing, str):
        return Text(thing)
    return Number(thing) if isinstance(thing, int) else thing


class FunctionsTest(unittest.TestCase):
    def test_defined_in_their_files_with_their_arguments(self):
        for module, name, arguments, asked in FUNCTIONS:
            with self.subTest(name):
                function = called(module, name)
                self.assertEqual(function.__module__, "recutkeys." + module)
                self.assertEqual(str(signature(function)), f"({arguments})")
                self.assertEqual(len(names_in(arguments)[0]), len(asked))

    def test_by_their_places_and_by_their_names(self):
        for module, name, arguments, asked in FUNCTIONS:
            with self.subTest(name):
                function = called(module, name)
                names, ahead = names_in(arguments)
                rest = dict(zip(names[ahead:], asked[ahead:]))
                wanted = repr(shown(function(*asked[:ahead], **rest)))
                named = dict(zip(names, asked))
                for order in (names, names[::-1], names[1:] + names[:1]):
                    self.assertEqual(repr(shown(function(**{one: named[one] for one in order}))), wanted)
                for many in range(ahead):
                    later = {one: named[one] for one in names[:many - 1 if many else None:-1] if one in names[many:]}
                    self.assertEqual(repr(shown(function(*asked[:many], **later))), wanted)

    def test_those_behind_a_star_by_name_alone(self):
        for module, name, arguments, asked in FUNCTIONS:
            names, ahead = names_in(arguments)
            if ahead < len(names):
                with self.assertRaises(TypeError):
                    called(module, name)(*asked)
                # They may be left out.
                called(module, name)(*asked[:ahead])

    def test_told_is_the_askers_own_and_handed_in_stays(self):
        for module, name, arguments, asked in FUNCTIONS:
            with self.subTest(name):
                function = called(module, name)
                names, ahead = names_in(arguments)
                mine = copy.deepcopy(asked)
                rest = dict(zip(names[ahead:], mine[ahead:]))
                told = function(*mine[:ahead], **rest)
                kept = repr(shown(told))
                self.assertEqual(repr(shown(mine)), repr(shown(asked)))
                self.assertEqual(repr(shown(function(*mine[:ahead], **rest))), kept)
                spoil(told)
                self.assertEqual(repr(shown(mine)), repr(shown(asked)))
                self.assertEqual(repr(shown(function(*mine[:ahead], **rest))), kept)
                # Nor does what was told hang on what is done to the things handed in.
                told = function(*mine[:ahead], **rest)
                spoil(mine)
                self.assertEqual(repr(shown(told)), kept)

    def test_told_is_of_just_the_told_kinds(self):
        for module, name, arguments, asked in FUNCTIONS:
            with self.subTest(name):
                function = called(module, name)
                names, ahead = names_in(arguments)
                told = function(*asked[:ahead], **dict(zip(names[ahead:], asked[ahead:])))
                assert_just(self, shown(told))
                if names[-1] in OF_ANYTHING:
                    self.assertIs(told, True)
                    continue
                other = [thing if isinstance(thing, (Hall, Walk)) else dressed(thing) for thing in asked]
                anew = function(*other[:ahead], **dict(zip(names[ahead:], other[ahead:])))
                assert_just(self, shown(anew))
                self.assertEqual(repr(shown(anew)), repr(shown(told)))


class ClassesTest(unittest.TestCase):
    def test_methods_with_their_arguments(self):
        self.assertEqual((Hall.__module__, Walk.__module__), ("recutkeys.halls", "recutkeys.walk"))
        for owner, name, arguments in METHODS:
            with self.subTest(f"{owner.__name__}.{name}"):
                self.assertIn(name, owner.__dict__)
                self.assertEqual(str(signature(owner.__dict__[name])), f"({arguments})")

    def test_refusals(self):
        for name, above, fields in REFUSALS:
            with self.subTest(name):
                refusal = getattr(errors, name)
                self.assertEqual(refusal.__module__, "recutkeys.errors")
                self.assertEqual(refusal.__bases__, (above,))
                self.assertEqual(str(signature(refusal)), f"({', '.join(fields)})")
                # Made of anything, by places or by names.
                things = [object() for _ in fields]
                for made in (refusal(*things), refusal(**dict(zip(fields, things)))):
                    for field, thing in zip(fields, things):
                        self.assertIs(getattr(made, field), thing)
                        self.assertIn(field, vars(made))

    def test_bounds(self):
        for name, number in BOUNDS.items():
            self.assertIs(type(getattr(bounds, name)), int)
            self.assertEqual(getattr(bounds, name), number)

    def test_to_things_of_another_kind_none_is_equal(self):
        for one in (HALL, Walk(HALL, STAND)):
            for other in (HALL, Walk(HALL, STAND), None, "", (), [], {}, 0, errors.NoText(0), Hall, Walk):
                self.assertIs(one == other, type(one) is type(other))


if __name__ == "__main__":
    unittest.main()
