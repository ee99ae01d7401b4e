"""Point [120], and what [121] says of it."""

import random
import re
import unittest
from itertools import combinations, product

import plain
from plaininns import Book, outcome
from test_inns import LIVED, drawn_deed, inn_with
from lastfaces import errors
from lastfaces.houses import House
from lastfaces.inns import Inn
from lastfaces.inntexts import read_inn, write_inn

TEXT = """room a
room b
room c
room d
door a b
door a d
door b c
door c d
in x c
in y b
face a x
hold can
watch reach x
"""
NAME = "[a-z][a-z0-9]{0,11}"
LINES = [f"room ({NAME})", f"door ({NAME}) ({NAME})", f"in ({NAME}) ({NAME})", f"face ({NAME}) ({NAME})",
         f"(?:watch|hold) (alone|can|lots|left|reach {NAME}|seen {NAME}|shows {NAME})"]


def is_text(lines):
    """Whether lines are those of an inn: by the kinds of all lines, and what they say of one another."""
    told = [[], [], [], [], []]
    stage = 0
    for line in lines:
        found = [(kind, re.fullmatch(LINES[kind], line)) for kind in range(5) if re.fullmatch(LINES[kind], line)]
        if not found or found[0][0] < stage:
            return False
        stage = found[0][0]
        told[stage].append(found[0][1].groups())
    rooms = [name for name, in told[0]]
    where = dict(told[2])
    if not rooms or any(rows != sorted(set(rows)) for rows in told[:2]):
        return False
    if any(one >= other or one not in rooms or other not in rooms for one, other in told[1]):
        return False
    people, faced = [person for person, _ in told[2]], [room for room, _ in told[3]]
    if people != sorted(set(people)) or faced != sorted(set(faced)) or not set(where.values()) <= set(rooms):
        return False
    if any(room not in rooms or room in where.values() or person not in where for room, person in told[3]):
        return False
    questions = [question.split() for question, in told[4]]
    for index, question in enumerate(questions):
        if question in questions[:index] or question[0] in ("reach", "seen") and question[1] not in where:
            return False
        if question[0] == "shows" and question[1] not in rooms:
            return False
    return True


def first_wrong(text):
    """The number of the first line up to which no text of an inn begins so, None for a text of an inn."""
    *lines, rest = text.split("\n")
    for index in range(len(lines)):
        if not is_text(lines[:index + 1]):
            return index + 1
    return len(lines) + 1 if rest or not lines else None


def drawn_inn(chance):
    deeds = []
    for _ in range(chance.randint(0, 40)):
        deed = drawn_deed(chance, Book("a", deeds))
        if outcome("a", deeds, deed)[0] is None:
            deeds.append(deed)
    return inn_with(deeds)


def spoilt(text, chance):
    """A text with something changed."""
    lines = text.split("\n")
    kind = chance.choice(["drop", "twice", "again", "swap", "word", "sign", "end", "more", "blank"])
    at = chance.randrange(len(lines))
    if kind == "drop":
        del lines[at]
    if kind == "twice":
        lines.insert(at, chance.choice(lines))
    if kind == "again":
        words = lines[at].split(" ")
        lines.insert(at + 1, " ".join([*words[:-1], chance.choice(["a", "b", "c", "d", "x", "y", "can", "left"])]))
    if kind == "swap":
        other = chance.randrange(len(lines))
        lines[at], lines[other] = lines[other], lines[at]
    if kind == "word":
        words = lines[at].split(" ")
        words[chance.randrange(len(words))] = chance.choice(["a", "x", "room", "in", "can", "", "zz", "A", "shows"])
        lines[at] = " ".join(words)
    if kind == "sign" and lines[at]:
        signs = list(lines[at])
        signs[chance.randrange(len(signs))] = chance.choice("abx 1\t\r_")
        lines[at] = "".join(signs)
    if kind == "end":
        return "\n".join(lines)[:chance.randrange(len(text) + 1)]
    if kind == "more":
        lines.insert(at, chance.choice(["room e", "door a b", "in w a", "face d y", "watch can", "hold left", "", " "]))
    if kind == "blank":
        lines[at] = chance.choice([" " + lines[at], lines[at] + " ", lines[at].replace(" ", "  ", 1)])
    return "\n".join(lines)


def all_inns(rooms, people):
    """All inns with just some rooms, with any doors between them, any of some people, and any faces."""
    pairs = list(combinations(rooms, 2))
    built = [("build", room, rooms[0]) for room in rooms[1:]]
    doorings = product([False, True], repeat=len(pairs))
    for doored, stood in product(doorings, product([None, *rooms], repeat=len(people))):
        doors = [pair for pair, is_door in zip(pairs, doored) if is_door]
        changed = [("door", *pair) for pair in doors if rooms[0] not in pair]
        changed.extend([("wall", *pair) for pair in pairs if rooms[0] in pair and pair not in doors])
        come = [("come", person, room) for person, room in zip(people, stood) if room is not None]
        free = [room for room in rooms if room not in stood]
        for faces in product([None, *[person for _, person, _ in come]], repeat=len(free)):
            painted = [("paint", room, face) for room, face in zip(free, faces) if face is not None]
            yield inn_with([*built, *changed, *come, *painted], rooms[0])


class TestWrite(plain.Checks):
    def test_told(self):
        inn = inn_with(LIVED + [("hold", ("can",)), ("watch", ("reach", "x"))])
        self.assertEqual(write_inn(inn), TEXT)
        self.assertEqual(write_inn(Inn("a")), "room a\n")
        crowd = inn_with([("build", "b", "a"), ("come", "y", "b"), ("come", "x", "b"), ("paint", "a", "y")])
        self.assertEqual(write_inn(crowd), "room a\nroom b\ndoor a b\nin x b\nin y b\nface a y\n")

    def test_bad_inn(self):
        for thing in plain.odd_things() + [TEXT, House(["a"], []), Inn]:
            self.raises((errors.BadInn, thing), write_inn, thing)


class TestRead(plain.Checks):
    def test_what_was_written(self):
        chance = random.Random(1)
        for _ in range(150):
            inn = drawn_inn(chance)
            text = write_inn(inn)
            self.assertIsNone(first_wrong(text))
            told = read_inn(text)
            self.assertEqual(told, inn)
            self.assertEqual(write_inn(told), text)
            self.assertEqual((told.count(), told.deeds(), told.undo(), told.again()), (0, [], None, None))
            self.assertEqual((told.now(), told.where(), told.faces(), told.watched()),
                             (inn.now(), inn.where(), inn.faces(), inn.watched()))

    def test_goes_on(self):
        inn = read_inn(TEXT)
        inn.do(("go", "y", "a"))
        self.assertEqual(inn.faces(), {"a": "y", "b": "y", "c": "x", "d": None})
        self.assertEqual(inn.at(0), read_inn(TEXT))
        with self.assertRaises(errors.WouldChange):
            inn.do(("wall", "a", "b"))

    def test_spoilt(self):
        """Line by line: the first line up to which no text of an inn begins so."""
        chance = random.Random(2)
        wrong = 0
        for _ in range(4000):
            text = write_inn(drawn_inn(chance)) if chance.random() < 0.1 else TEXT
            for _ in range(chance.choice([1, 1, 2])):
                text = spoilt(text, chance)
            line = first_wrong(text)
            if line is None:
                self.assertEqual(write_inn(read_inn(text)), text)
            else:
                wrong += 1
                self.raises((errors.BadText, line), read_inn, text)
        self.assertGreater(wrong, 2500)

    def test_lines(self):
        for text, line in [
                ("", 1), ("\n", 1), ("room a", 1), ("room a\nroom b", 2), ("room a\n\n", 2), (" room a\n", 1),
                ("door a b\n", 1), ("watch can\n", 1), ("room A\n", 1), ("room a\nroom a\n", 2),
                ("room b\nroom a\n", 2), ("room a b\n", 1),
                ("room a\nin x a\nroom b\n", 3), ("room a\nroom b\ndoor b a\n", 3), ("room a\ndoor a b\nroom b\n", 2),
                ("room a\nroom b\ndoor a b\ndoor a b\n", 4), ("room a\nface a x\n", 2),
                ("room a\nin x a\nface a x\n", 3), ("room a\nroom b\nin x a\nface b y\n", 4),
                ("room a\nwatch seen x\n", 2), ("room a\nwatch can\nhold can\n", 3), ("room a\nin x b\n", 2),
                ("room a\nin X a\n", 2), ("room a\nwatch  can\n", 2), ("room a\nwatch can \n", 2),
                ("room a\nwatch\n", 2), ("room a\nhold shows b\n", 2), ("room a\nroom a", 2), ("room a\n door", 2),
                ("x\nroom a", 1), ("room a\r\n", 1), ("room\n", 1), ("room abcdefghijklm\n", 1), ("room a\nin x\n", 2)]:
            self.assertEqual(first_wrong(text), line, text)
            self.raises((errors.BadText, line), read_inn, text)
        for text in ["room a\nwatch alone\nhold shows a\n",
                     "room a\nroom b\nin x a\nin y a\nface b x\nhold lots\nwatch can\n"]:
            self.assertEqual(write_inn(read_inn(text)), text)

    def test_told_twice(self):
        """Nobody has two rooms, and no room two faces, whether or not the two lines ascend, or are alike."""
        rooms = "room a\nroom b\nroom c\n"
        stood = rooms + "in x a\nin y a\nin z a\n"
        for text, line in [
                (rooms + "in x a\nin x b\n", 5), (rooms + "in x b\nin x c\nin y a\n", 5),
                (rooms + "in x b\nin x a\n", 5), (rooms + "in x c\nin x c\n", 5),
                (rooms + "in w a\nin x b\nin y a\nin y b\nin y c\n", 7), (rooms + "in x b\nin y a\nin x c\n", 6),
                (rooms + "door a b\nin x a\nin x b\nin y a\nin y b\n", 6), (rooms + "in x a\nin x b\nnonsense\n", 5),
                (rooms + "in guest1 a\nin guest1 b\nface c guest1\nwatch seen guest1\n", 5),
                (rooms + "in x a\nin x b\nroom", 5), (rooms + "in x a\nin x b", 5),
                (stood + "face b x\nface b y\n", 8), (stood + "face b y\nface b z\nface c x\n", 8),
                (stood + "face b y\nface b x\n", 8), (stood + "face c z\nface c z\n", 8),
                (stood + "face b x\nface c x\nface c y\n", 9), (stood + "face b x\nface c x\nface b y\n", 9),
                (stood + "face b x\nface b y\nface b z\n", 8), (stood + "face c y\nface c z\nwatch can\n", 8)]:
            self.assertEqual(first_wrong(text), line, text)
            self.raises((errors.BadText, line), read_inn, text)
        for text in [rooms + "in x b\nin y b\nin z a\n", rooms + "door a b\ndoor a c\ndoor b c\n",
                     stood + "face b x\nface c x\n", stood + "face b z\nface c y\n",
                     "room a\nroom b\nin a b\nin b b\nface a a\n",
                     "room a\nin x a\nin y a\nwatch seen x\nwatch seen y\nhold shows a\nwatch reach x\n"]:
            self.assertIsNone(first_wrong(text))
            self.assertEqual(write_inn(read_inn(text)), text)

    def test_each_line_behind_each_text(self):
        """A line can come behind the text of a small inn just if this, too, is the text of one."""
        lines = [f"room {room}\n" for room in "abc"]
        for kind, ones, others in [("door", "abc", "abc"), ("in", "xyz", "abc"), ("face", "abc", "xyz")]:
            lines.extend([f"{kind} {one} {other}\n" for one, other in product(ones, others)])
        texts = {}
        for rooms in ["a", "b", "c", "ab", "ac", "bc", "abc"]:
            for inn in all_inns(list(rooms), ["x", "y", "z"]):
                texts[write_inn(inn)] = inn
        wrong = 0
        for text, inn in texts.items():
            self.assertEqual(read_inn(text), inn)
            for more in [text + line for line in lines if text + line not in texts]:
                wrong += 1
                self.raises((errors.BadText, more.count("\n")), read_inn, more)
        self.assertGreater(wrong, 50000)

    def test_no_string(self):
        for thing in plain.odd_things():
            if not isinstance(thing, str):
                self.raises((errors.BadText, 0), read_inn, thing)
            else:
                self.raises((errors.BadText, 1), read_inn, thing)

    def test_long_texts(self):
        rooms = [f"room r{index:03d}" for index in range(700)]
        self.assertEqual(len(read_inn("\n".join(rooms) + "\n").now()), 700)
        self.raises((errors.BadText, 701), read_inn, "\n".join(rooms) + "\nroom r000\n")
        self.raises((errors.BadText, 1), read_inn, "x" * 8000)
        self.raises((errors.BadText, 1), read_inn, "\n" * 8000)


if __name__ == "__main__":
    unittest.main()
