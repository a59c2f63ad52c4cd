"""Desks: lines said to a map of squares, answered, written down and done again."""

from borderwright.cells import BARE, lots_of, map_of, rows_of
from borderwright.colours import fewest
from borderwright.errors import (
    BadMap, BadPaper, BadPart, BadPoint, BadRing, BadSize, BadStore, BadText, MapFault, NoSuch,
)
from borderwright.merges import merged
from borderwright.parts import part, told

FIGURES = "0123456789"
LETTERS = "abcdefghijklmnopqrstuvwxyz"
BASE = 9973
WIDE = 2000003


def number(word):
    """Return the number of one to three figures; BadText."""
    if not 0 < len(word) < 4 or word.strip(FIGURES) != "":
        raise BadText("no number of one to three figures")
    return int(word)


def letter(word):
    """Return a small letter; BadText."""
    if len(word) != 1 or word not in LETTERS:
        raise BadText("no small letter")
    return word


def figure_of(text):
    """Return a text's figure: its signs' numbers added up, then weighed by their places from one on."""
    added = sum([ord(sign) for sign in text]) % WIDE
    weighed = sum([ord(sign) * place for place, sign in enumerate(text, start=1)]) % BASE
    return added * BASE + weighed


class Desk:
    """Rows of letters, the lowest first, their map, and the text of what was done."""

    def __init__(self):
        self.rows = None
        self.map = None
        self.text = ""
        self.many = 0

    def say(self, line):
        """Do or answer a line; return the answer, "error: ..." for what is refused."""
        try:
            return self.do(line)
        except BadText:
            return "error: text"
        except BadPart:
            return "error: part"
        except BadPoint:
            return "error: point"
        except BadRing:
            return "error: ring"
        except BadMap:
            return "error: map"
        except BadPaper:
            return "error: paper"
        except BadSize:
            return "error: size"
        except NoSuch:
            return "error: no such"

    def do(self, line):
        """Do or answer a line by its first word; what changes something is written down; BadText."""
        words = line.split()
        if words == []:
            raise BadText("a bare line")
        form = (words[0], len(words))
        if form == ("open", 3):
            wide, high = number(words[1]), number(words[2])
            if not 0 < wide < 9 or not 0 < high < 9:
                raise BadSize("not one to eight squares")
            return self.let([BARE * wide] * high, words)
        if form == ("paint", 4):
            self.paint(number(words[1]), number(words[2]), words[3], words)
            return told(self.map.whole())
        if form == ("merge", 4):
            one, other, name = [letter(word) for word in words[1:]]
            made = merged(self.here(), [one, other], name)
            return self.let(rows_of(made, len(self.rows[0]), len(self.rows)), words)
        return self.answer(words)

    def here(self):
        """Return the map; NoSuch for none."""
        if self.map is None:
            raise NoSuch("nothing is open")
        return self.map

    def paint(self, x, y, sign, words):
        """Let a square have a letter, or a dot; BadText, BadSize, NoSuch."""
        if sign != BARE:
            letter(sign)
        self.here()
        if not 0 <= y < len(self.rows) or not 0 <= x < len(self.rows[0]):
            raise BadSize("a square outside")
        row = self.rows[y]
        self.let([*self.rows[:y], row[:x] + sign + row[x + 1:], *self.rows[y + 1:]], words)

    def let(self, rows, words):
        """Let rows be the map's, and write the line down; return how great the whole is."""
        made = map_of(rows)
        body = " ".join([str(self.many), *words])
        self.rows = tuple(rows)
        self.map = made
        self.text += f"{body} {figure_of(body)}\n"
        self.many += 1
        return told(made.whole())

    def answer(self, words):
        """Return a size, who is at a point, neighbours, gaps, lots, colours, or the rows; BadText, NoSuch."""
        form = (words[0], len(words))
        if form == ("size", 2):
            name = letter(words[1])
            return told(self.here().area(name))
        if form == ("at", 3):
            spot = (part(number(words[1]), 2), part(number(words[2]), 2))
            return " ".join(self.here().at(spot))
        made = self.here()
        if form == ("beside", 1):
            return " ".join([one + other for one, other in made.neighbours()])
        if form == ("gaps", 1):
            return str(len(made.gaps()))
        if form == ("lots", 1):
            return " ".join([f"{sign}{len(squares)}" for sign, squares in lots_of(self.rows)])
        if form == ("colours", 1):
            return str(fewest(made.names(), made.neighbours()))
        if form == ("rows", 1):
            return "/".join(self.rows)
        raise BadText("no line of the language")


def lines_of(text):
    """Return the lines of a written text, a row without an end left out; BadStore."""
    found = []
    for place, row in enumerate(text.split("\n")[:-1]):
        body, _, figure = row.rpartition(" ")
        head, _, line = body.partition(" ")
        if head != str(place) or figure != str(figure_of(body)):
            raise BadStore("a row that isn't whole")
        found.append(line)
    return tuple(found)


def done_again(text):
    """Return the desk that a text's lines make from nothing; BadStore for what can't be."""
    desk = Desk()
    for line in lines_of(text):
        try:
            desk.do(line)
        except MapFault:
            raise BadStore("a line that is refused") from None
    # What is no deed, or is written otherwise than a desk writes it, can't have been written.
    if desk.text != text[:text.rfind("\n") + 1]:
        raise BadStore("a line that is no deed")
    return desk
