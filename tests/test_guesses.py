"""Point [41]."""

import unittest

import plain
from lastfaces import errors
from lastfaces.fillings import could_show, count_fillings, filling, filling_paper, fullest, last_rooms, most_seen
from lastfaces.fillings import narrowed, sure_faces
from lastfaces.guesses import is_guesses, is_within, wiped
from lastfaces.houses import House

H = House(["a", "b", "c", "d"], [("a", "b"), ("b", "c"), ("c", "d"), ("d", "a")])
G = {"a": ["x"], "b": ["x", "y", None], "c": ("y",), "d": [None, "x"]}
F = {"a": "x", "b": "x", "c": "y", "d": None}


def no_faces():
    """Any objects that are no face."""
    return [thing for thing in plain.no_names() if thing is not None]


class TestGuesses(plain.Checks):
    def test_ordinary(self):
        for thing in [G, {**G, "b": [None]}, {**G, "a": ["w", "nobody", "z"]}, plain.other_order(G)]:
            for other in plain.both_kinds(thing):
                self.assertIs(is_guesses(H, other), True)

    def test_wrong(self):
        for thing in [F, {**G, "a": []}, {**G, "a": ()}, {**G, "a": ["x", "x"]}, {**G, "a": [None, "x", None]},
                      {**G, "a": "x"}, {**G, "a": {"x": 1}}, {**G, "e": ["x"]}, {"a": ["x"]}, {**G, "a": ["X"]},
                      {**G, "a": [""]}, {**G, "a": ["x", ""]}, {**G, "a": [["x"]]}, list(G.items()), {**G, 1: ["x"]}]:
            self.assertIs(is_guesses(H, thing), False)

    def test_any_objects(self):
        for thing in plain.odd_things():
            self.assertIs(is_guesses(H, thing), False)
            if not isinstance(thing, (list, tuple)) or not thing or thing in ([[]], [1, 2, 3], ("q", "q")):
                self.assertIs(is_guesses(H, {**G, "b": thing}), False)
        self.assertIs(is_guesses(H, {**G, "b": [None]}), True)
        self.assertIs(is_guesses(H, {**G, "b": ["nowhere"]}), True)
        for thing in no_faces():
            self.assertIs(is_guesses(H, {**G, "b": ["x", thing]}), False)
            self.assertIs(is_guesses(H, {**G, "b": [thing]}), False)
        for thing in [1, None, True, "e", ("a",), len]:
            told = {"a": ["x"], "b": ["x"], "c": ["x"], thing: ["x"]}
            self.assertIs(is_guesses(H, told), False)

    def test_bad_guesses(self):
        placing = {"x": "a"}
        calls = [filling, filling_paper, narrowed, sure_faces, most_seen, fullest, last_rooms, count_fillings]
        calls.append(lambda *told: could_show(*told, "nowhere"))
        for thing in plain.odd_things() + [F, {**G, "a": []}]:
            self.raises((errors.BadGuesses, thing), is_within, H, thing, F)
            self.raises((errors.BadGuesses, thing), is_within, H, thing, None)
            for call in calls:
                self.raises((errors.BadGuesses, thing), call, H, placing, thing)
                if thing != {}:
                    self.raises((errors.BadPlacing, thing), call, H, thing, thing)


class TestWiped(plain.Checks):
    def test_told(self):
        told = wiped(H, F, ["d", "a"], ["y", "q", "x"])
        self.assertEqual(told, {"a": ["q", "x", "y", None], "b": ["x"], "c": ["y"], "d": ["q", "x", "y", None]})
        self.assertEqual(list(told), ["a", "b", "c", "d"])
        self.assertEqual(wiped(H, F, [], ["x"]), {"a": ["x"], "b": ["x"], "c": ["y"], "d": [None]})
        self.assertEqual(wiped(H, F, ("b",), ()), {"a": ["x"], "b": [None], "c": ["y"], "d": [None]})
        self.assertIs(is_guesses(H, told), True)
        told["a"].clear()
        self.assertEqual(told["d"], ["q", "x", "y", None])

    def test_errors_in_order(self):
        for thing in plain.odd_things():
            self.raises((errors.BadMap, thing), wiped, H, thing, thing, thing)
            if not isinstance(thing, (list, tuple)):
                self.raises((errors.BadSome, 0), wiped, H, F, thing, thing)
                self.raises((errors.BadPeople, 0), wiped, H, F, ["a"], thing)
            self.raises((errors.BadSome, 1), wiped, H, F, ["a", thing, "a"], None)
        for thing in plain.no_names():
            self.raises((errors.BadPeople, 1), wiped, H, F, ["a"], ["x", thing, thing])
        self.raises((errors.BadSome, 2), wiped, H, F, ("a", "b", "a"), ["x"])
        self.raises((errors.BadPeople, 2), wiped, H, F, ("a", "b"), ("x", "y", "x", 1))
        self.raises((errors.BadPeople, 0), wiped, H, F, [], [None])


class TestWithin(plain.Checks):
    def test_all_maps(self):
        for faces in plain.maps("abcd", ["x", "y", "w", None]):
            wanted = all(faces[room] in G[room] for room in G)
            self.assertIs(is_within(H, G, faces), wanted)
            self.assertIs(is_within(H, plain.other_order(G), plain.other_order(faces)), wanted)

    def test_any_objects(self):
        for thing in plain.odd_things() + [{**F, "e": "x"}, {"a": "x", "b": "x", "c": "y"}, list(F), G]:
            self.assertIs(is_within(H, G, thing), False)
        for thing in no_faces() + ["nowhere"]:
            self.assertIs(is_within(H, G, {**F, "b": thing}), False)
        self.assertIs(is_within(H, G, F), True)


if __name__ == "__main__":
    unittest.main()
