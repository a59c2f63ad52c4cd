import random
import unittest

from borderwright import desks
from borderwright.desks import Desk, done_again, figure_of, letter, lines_of, number
from borderwright.errors import BadMap, BadSize, BadStore, BadText, NoSuch
from helper import map_state, refused_unchanged, tuples_all_through, unchanged

QUESTIONS = ("size a", "at 1 1", "beside", "gaps", "lots", "colours", "rows")


def state(desk):
    """Return all that a desk keeps, so that two states of it can be compared."""
    return (desk.rows, None if desk.map is None else map_state(desk.map), desk.text, desk.many)


def desk_of(*lines):
    """Return a desk to which lines have been said, none of which was refused."""
    desk = Desk()
    for line in lines:
        desk.do(line)
    return desk


def painted(*rows):
    """Return a desk on which rows of letters have been painted, the lowest first."""
    desk = desk_of(f"open {len(rows[0])} {len(rows)}")
    for y, row in enumerate(rows):
        for x, sign in enumerate(row):
            desk.do(f"paint {x} {y} {sign}")
    return desk


def written(*lines):
    """Return the text that lines make when they are written down."""
    found = ""
    for place, line in enumerate(lines):
        body = f"{place} {line}"
        added = sum(ord(sign) for sign in body) % 2000003
        weighed = sum(ord(sign) * (k + 1) for k, sign in enumerate(body)) % 9973
        found += f"{body} {added * 9973 + weighed}\n"
    return found


def some_desks():
    """Return some desks to which many lines have been said, some of them refused."""
    rand = random.Random(81)
    found = [Desk()]
    for _ in range(8):
        desk = Desk()
        for _ in range(30):
            x, y, sign = rand.randint(0, 4), rand.randint(0, 4), rand.choice("aaabbc.")
            desk.say(rand.choice((f"paint {x} {y} {sign}",) * 12 + (
                f"open {rand.randint(0, 4)} {rand.randint(1, 4)}", f"merge {sign} {rand.choice('ab')} d", "rows",
                "dance", "", f"  merge  a b {sign} ")))
        found.append(desk)
    return found


class Words(unittest.TestCase):
    def test_constants(self):
        self.assertEqual((desks.FIGURES, desks.LETTERS, desks.BASE, desks.WIDE),
                         ("0123456789", "abcdefghijklmnopqrstuvwxyz", 9973, 2000003))

    def test_number(self):
        for word, found in (("0", 0), ("7", 7), ("10", 10), ("007", 7), ("999", 999), ("000", 0)):
            self.assertEqual(number(word), found)

    def test_what_is_no_number_is_refused(self):
        for word in ("", "1000", "0000", "-1", "+1", "1a", "a", "a1", "1.0", "1 2", " 1", "1_0", "\u0661", "\u00b2",
                     "1-2", "."):
            refused_unchanged(self, BadText, number, word)

    def test_letter(self):
        for word in "abcdefghijklmnopqrstuvwxyz":
            self.assertEqual(letter(word), word)

    def test_what_is_no_small_letter_is_refused(self):
        for word in ("", "ab", "A", "Z", ".", "1", " ", "\u00e4", "a ", "abc"):
            refused_unchanged(self, BadText, letter, word)

    def test_figure_of(self):
        self.assertEqual(figure_of(""), 0)
        self.assertEqual(figure_of("a"), 97 * 9973 + 97)
        self.assertEqual(figure_of("ab"), (97 + 98) * 9973 + 97 + 2 * 98)
        self.assertEqual(figure_of("ba"), (97 + 98) * 9973 + 98 + 2 * 97)

    def test_figure_of_a_long_text(self):
        self.assertEqual(figure_of("z" * 20000), (122 * 20000 % 2000003) * 9973 + (122 * 20000 * 20001 // 2) % 9973)
        self.assertEqual(figure_of("a" * 20618), (97 * 20618 % 2000003) * 9973 + 97 * (20618 * 20619 // 2) % 9973)
        self.assertLess(figure_of("\uffff" * 40), 2000003 * 9973)
        self.assertEqual(figure_of("\uffff" * 40), (65535 * 40 % 2000003) * 9973 + (65535 * 820) % 9973)


class Open(unittest.TestCase):
    def test_fields(self):
        self.assertEqual(state(Desk()), (None, None, "", 0))

    def test_all_dots(self):
        desk = Desk()
        self.assertEqual(desk.say("open 3 2"), "0")
        self.assertEqual(desk.rows, ("...", "..."))
        tuples_all_through(self, desk.rows)
        self.assertEqual((desk.map.names(), desk.many, desk.text), ((), 1, written("open 3 2")))

    def test_one_to_eight(self):
        for word in ("1", "8", "08", "001"):
            self.assertEqual(Desk().say(f"open {word} 1"), "0")
            self.assertEqual(Desk().say(f"open 1 {word}"), "0")
        self.assertEqual(desk_of("open 8 1").rows, ("........",))
        self.assertEqual(desk_of("open 1 8").rows, (".",) * 8)

    def test_else_size(self):
        for words in ("0 1", "1 0", "9 1", "1 9", "999 999", "0 9"):
            for desk in (Desk(), painted("ab")):
                before = state(desk)
                self.assertEqual(desk.say("open " + words), "error: size")
                self.assertEqual(state(desk), before)

    def test_words_that_are_no_numbers(self):
        for words in ("a 1", "1 a", "1000 1", "-1 1", "0 x", "9 x"):
            for desk in (Desk(), painted("ab")):
                before = state(desk)
                self.assertEqual(desk.say("open " + words), "error: text")
                self.assertEqual(state(desk), before)

    def test_again(self):
        desk = painted("ab")
        self.assertEqual(desk.say("open 3 1"), "0")
        self.assertEqual((desk.rows, desk.map.names(), desk.many), (("...",), (), 4))
        self.assertEqual(desk.text, written("open 2 1", "paint 0 0 a", "paint 1 0 b", "open 3 1"))


class Paint(unittest.TestCase):
    def test_answers_the_size_of_all_regions(self):
        desk = desk_of("open 3 2")
        for line, answer, rows in (("paint 0 0 a", "1", ("a..", "...")), ("paint 2 1 b", "2", ("a..", "..b")),
                                   ("paint 0 0 b", "2", ("b..", "..b")), ("paint 0 0 .", "1", ("...", "..b")),
                                   ("paint 0 0 .", "1", ("...", "..b")), ("paint 2 1 b", "1", ("...", "..b"))):
            self.assertEqual(desk.say(line), answer)
            self.assertEqual(desk.rows, rows)
            tuples_all_through(self, desk.rows)
        self.assertEqual(desk.map.names(), ("b",))
        self.assertEqual(desk.many, 7)

    def test_what_is_painted_alike_is_written_too(self):
        desk = desk_of("open 1 1", "paint 0 0 a", "paint 0 0 a")
        self.assertEqual(desk.text, written("open 1 1", "paint 0 0 a", "paint 0 0 a"))

    def test_outside(self):
        desk = painted("abc", "bbb")
        before = state(desk)
        for words in ("3 0", "0 2", "999 999", "3 2", "2 3"):
            self.assertEqual(desk.say(f"paint {words} a"), "error: size")
            self.assertEqual(desk.say(f"paint {words} ."), "error: size")
        self.assertEqual(state(desk), before)
        self.assertEqual(desk.say("paint 2 1 a"), "6")

    def test_words_are_read_first(self):
        for line in ("paint x 0 a", "paint 0 x a", "paint 0 0 A", "paint 0 0 ab", "paint 0 0 1", "paint 9 9 ..",
                     "paint 1000 0 a", "paint -1 0 a"):
            for desk in (Desk(), painted("ab")):
                before = state(desk)
                self.assertEqual(desk.say(line), "error: text")
                self.assertEqual(state(desk), before)

    def test_nothing_open(self):
        for line in ("paint 0 0 a", "paint 99 99 .", "paint 0 0 ."):
            desk = Desk()
            self.assertEqual(desk.say(line), "error: no such")
            self.assertEqual(state(desk), (None, None, "", 0))

    def test_paint_itself(self):
        desk = painted("ab")
        many, words = desk.many, ["paint", "0", "0", "c"]
        self.assertIsNone(unchanged(self, lambda *handed: desk.paint(*handed), 0, 0, "c", words))
        self.assertEqual((desk.rows, desk.many), (("cb",), many + 1))
        before = state(desk)
        for x, y, sign, error in ((2, 0, "c", BadSize), (0, 1, ".", BadSize), (-1, 0, "c", BadSize),
                                  (0, -1, "c", BadSize), (0, 0, "C", BadText), (9, 9, "C", BadText)):
            refused_unchanged(self, error, lambda *handed: desk.paint(*handed), x, y, sign, words)
        self.assertEqual(state(desk), before)
        refused_unchanged(self, NoSuch, lambda *handed: Desk().paint(*handed), 0, 0, "c", words)
        refused_unchanged(self, BadText, lambda *handed: Desk().paint(*handed), 0, 0, "C", words)


class Merge(unittest.TestCase):
    def test_answers_the_size_of_all_regions(self):
        desk = painted("aab", "cbb")
        many = desk.many
        self.assertEqual(desk.say("merge a c d"), "6")
        self.assertEqual((desk.rows, desk.map.names(), desk.many), (("ddb", "dbb"), ("b", "d"), many + 1))
        tuples_all_through(self, desk.rows)
        self.assertEqual(desk.say("merge d b b"), "6")
        self.assertEqual((desk.rows, desk.map.names()), (("bbb", "bbb"), ("b",)))

    def test_dots_stay(self):
        desk = painted("a.b", "...")
        self.assertEqual(desk.say("merge a b a"), "2")
        self.assertEqual(desk.rows, ("a.a", "..."))

    def test_one_and_itself(self):
        desk = painted("ab")
        self.assertEqual(desk.say("merge a a z"), "2")
        self.assertEqual(desk.rows, ("zb",))

    def test_first_whether_both_are_there_then_whether_the_new_one_may_be(self):
        desk = painted("abc")
        before = state(desk)
        for line, word in (("merge a x d", "size"), ("merge x a d", "size"), ("merge x y d", "size"),
                           ("merge a x c", "size"), ("merge a b c", "map"), ("merge b a c", "map")):
            self.assertEqual(desk.say(line), "error: " + word)
            self.assertEqual(state(desk), before)
        self.assertRaises(BadMap, desk.do, "merge a b c")

    def test_words_are_read_first(self):
        for line in ("merge A b c", "merge a . c", "merge a b C", "merge a b .", "merge ab b c", "merge a b 1"):
            for desk in (Desk(), painted("ab")):
                before = state(desk)
                self.assertEqual(desk.say(line), "error: text")
                self.assertEqual(state(desk), before)
        self.assertEqual(Desk().say("merge a b c"), "error: no such")


class Questions(unittest.TestCase):
    def asked(self, desk, line):
        """Return a line's answer, and see that it changes nothing."""
        before = state(desk)
        found = desk.say(line)
        self.assertEqual(state(desk), before)
        return found

    def test_size(self):
        desk = painted("aab", "cab", "a..")
        for sign, size in (("a", "4"), ("b", "2"), ("c", "1")):
            self.assertEqual(self.asked(desk, "size " + sign), size)
        self.assertEqual(self.asked(desk, "size d"), "error: no such")
        for sign in ("A", "ab", ".", "1"):
            self.assertEqual(self.asked(desk, "size " + sign), "error: text")
            self.assertEqual(self.asked(Desk(), "size " + sign), "error: text")

    def test_at_in_halves(self):
        desk = painted("ab", "c.")
        for words, names in (("1 1", "a"), ("3 1", "b"), ("1 3", "c"), ("3 3", ""), ("2 1", "a b"), ("1 2", "a c"),
                             ("2 2", "a b c"), ("0 0", "a"), ("4 0", "b"), ("4 2", "b"), ("4 3", ""), ("3 2", "b"),
                             ("2 3", "c"), ("999 999", ""), ("5 0", ""), ("2 0", "a b"), ("0 4", "c")):
            self.assertEqual(self.asked(desk, "at " + words), names)
        for words in ("x 1", "1 x", "1000 1", "-1 0", "1/2 0"):
            self.assertEqual(self.asked(desk, "at " + words), "error: text")
            self.assertEqual(self.asked(Desk(), "at " + words), "error: text")

    def test_beside(self):
        self.assertEqual(self.asked(painted("ab", "c."), "beside"), "ab ac")
        self.assertEqual(self.asked(painted("zyx"), "beside"), "xy yz")
        self.assertEqual(self.asked(painted("a.", ".b"), "beside"), "")

    def test_gaps(self):
        self.assertEqual(self.asked(painted("a."), "gaps"), "0")
        self.assertEqual(self.asked(painted("aaa", "a.a", "aaa"), "gaps"), "1")
        self.assertEqual(self.asked(painted("aaaa", "a.ba", "ab.a", "aaaa"), "gaps"), "2")

    def test_lots(self):
        self.assertEqual(self.asked(painted("aab", "abb", "cca"), "lots"), "a3 b3 c2 a1")
        self.assertEqual(self.asked(painted("a.", ".."), "lots"), "a1")
        self.assertEqual(self.asked(painted(".a.a", "bb.a"), "lots"), "a1 a2 b2")
        self.assertEqual(self.asked(desk_of("open 4 3"), "lots"), "")
        self.assertEqual(self.asked(desk_of("open 1 1", "paint 0 0 a", "paint 0 0 ."), "lots"), "")

    def test_colours(self):
        self.assertEqual(self.asked(desk_of("open 2 2"), "colours"), "0")
        self.assertEqual(self.asked(painted("a."), "colours"), "1")
        self.assertEqual(self.asked(painted("ab", "ba"), "colours"), "2")
        self.assertEqual(self.asked(painted("aab", "acb"), "colours"), "3")
        self.assertEqual(self.asked(painted("aaa", "bcd", "eee", "bbb"), "colours"), "3")
        # A letter may stand for places apart, so that five may all be neighbours.
        self.assertEqual(self.asked(painted("abcde", "cdeab", "ebacd"), "colours"), "5")

    def test_rows(self):
        self.assertEqual(self.asked(painted("ab", "c."), "rows"), "ab/c.")
        self.assertEqual(self.asked(painted("a"), "rows"), "a")

    def test_nothing_open(self):
        for line in QUESTIONS:
            self.assertEqual(self.asked(Desk(), line), "error: no such")

    def test_a_bare_line_is_text_always(self):
        for line in ("", " ", "   \t "):
            for desk in (Desk(), painted("ab")):
                self.assertEqual(self.asked(desk, line), "error: text")
                self.assertRaises(BadText, desk.do, line)

    def test_a_line_of_another_form(self):
        for line in ("dance", "open", "open 1", "open 1 1 1", "paint", "paint 0 0", "paint 0 0 a a", "merge a b",
                     "merge a b c d", "size", "size a b", "at", "at 1", "at 1 1 1", "beside a", "gaps 1", "lots .",
                     "colours 2", "rows rows", "Rows", "OPEN 1 1", "open1 1", "1", "a", "."):
            self.assertEqual(self.asked(Desk(), line), "error: no such")
            self.assertEqual(self.asked(painted("ab"), line), "error: text")

    def test_blanks_are_nothing(self):
        desk = Desk()
        self.assertEqual(desk.say("  open   2  1 "), "0")
        self.assertEqual(desk.say("\tpaint 0\t0 a"), "1")
        self.assertEqual(desk.say(" rows "), "a.")
        self.assertEqual(desk.text, written("open 2 1", "paint 0 0 a"))

    def test_answer_itself(self):
        desk = painted("ab")
        for line, found in (("size a", "1"), ("at 2 1", "a b"), ("rows", "ab")):
            self.assertEqual(unchanged(self, lambda words: desk.answer(words), line.split()), found)
        for words in (["dance"], ["open", "1", "1"], ["size"], ["rows", "a"]):
            refused_unchanged(self, BadText, lambda words: desk.answer(words), words)
            refused_unchanged(self, NoSuch, lambda words: Desk().answer(words), words)
        refused_unchanged(self, NoSuch, lambda words: desk.answer(words), ["size", "c"])


class Deeds(unittest.TestCase):
    def test_here(self):
        self.assertRaises(NoSuch, Desk().here)
        desk = painted("ab")
        self.assertIs(desk.here(), desk.map)

    def test_let(self):
        desk = Desk()
        found = unchanged(self, lambda *handed: desk.let(*handed), ["ab", "a."], ["any", "words"])
        self.assertEqual((found, desk.rows, desk.many), ("3", ("ab", "a."), 1))
        self.assertEqual(desk.text, written("any words"))
        self.assertEqual(desk.map.shown(), painted("ab", "a.").map.shown())
        before = state(desk)
        for rows in ([], [""], ["ab", "c"]):
            refused_unchanged(self, BadText, lambda *handed: desk.let(*handed), rows, ["any"])
        self.assertEqual(state(desk), before)

    def test_written_with_number_words_and_figure(self):
        desk = desk_of("open 2 1", "paint 0 0 a")
        body = "0 open 2 1"
        self.assertEqual(desk.text.split("\n")[0], body + " " + str(figure_of(body)))
        self.assertEqual(desk.text, written("open 2 1", "paint 0 0 a"))
        self.assertTrue(desk.text.endswith("\n"))

    def test_only_deeds_that_are_not_refused_are_written(self):
        desk = Desk()
        lines = ["rows", "open 9 1", "open 2 2", "gaps", "paint 5 5 a", "paint 0 0 a", "paint 1 1 b", "", "merge a x c",
                 "merge a b b", "size b", "dance", "open 0 0", "lots"]
        for line in lines:
            desk.say(line)
        kept = ("open 2 2", "paint 0 0 a", "paint 1 1 b", "merge a b b")
        self.assertEqual((desk.text, desk.many), (written(*kept), 4))
        self.assertEqual(lines_of(desk.text), kept)

    def test_numbers_from_nought_on(self):
        desk = desk_of("open 1 1", *["paint 0 0 a"] * 12)
        self.assertEqual([row.split(" ")[0] for row in desk.text.split("\n")[:-1]], [str(k) for k in range(13)])
        self.assertEqual(desk.many, 13)

    def test_say_and_do(self):
        for line, error, word in (("", BadText, "text"), ("rows", NoSuch, "no such"), ("open 9 9", BadSize, "size")):
            self.assertRaises(error, Desk().do, line)
            self.assertEqual(Desk().say(line), "error: " + word)
        self.assertEqual(Desk().do("open 1 1"), "0")

    def test_each_kind_of_refusal_has_its_word(self):
        for name, word in (("BadText", "text"), ("BadPart", "part"), ("BadPoint", "point"), ("BadRing", "ring"),
                           ("BadMap", "map"), ("BadPaper", "paper"), ("BadSize", "size"), ("NoSuch", "no such")):
            desk = Desk()
            desk.do = self.refusing(getattr(desks, name))
            self.assertEqual(desk.say("any"), "error: " + word)

    def refusing(self, kind):
        """Return some work that is refused."""
        def work(line):
            raise kind("refused")
        return work

    def test_rows_and_map_go_together(self):
        for desk in some_desks():
            if desk.rows is not None:
                tuples_all_through(self, desk.rows)
                self.assertEqual(painted(*desk.rows).map.shown(), desk.map.shown())
            self.assertEqual(desk.text.count("\n"), desk.many)


class Stored(unittest.TestCase):
    LINES = ("open 3 2", "paint 0 0 a", "paint 1 0 b", "paint 2 1 .", "merge a b z")

    def test_lines_of_a_whole_text(self):
        text = desk_of(*self.LINES).text
        self.assertEqual(lines_of(text), self.LINES)
        tuples_all_through(self, lines_of(text))
        self.assertEqual(lines_of(""), ())

    def test_lines_of_a_text_cut_anywhere(self):
        text = desk_of(*self.LINES).text
        for place in range(len(text) + 1):
            whole = text[:place].count("\n")
            self.assertEqual(lines_of(text[:place]), self.LINES[:whole])

    def test_a_row_without_an_end_is_left_out_whatever_it_is(self):
        text = desk_of(*self.LINES).text
        for rest in ("x", "5", "5 paint", "no row at all", " "):
            self.assertEqual(lines_of(text + rest), self.LINES)
            self.assertEqual(done_again(text + rest).text, text)

    def test_a_changed_number_word_or_figure_is_refused(self):
        text = desk_of(*self.LINES).text
        rows = text.split("\n")[:-1]
        for place, row in enumerate(rows):
            for at in range(len(row)):
                for sign in "07 az.":
                    if sign != row[at]:
                        other = rows[:place] + [row[:at] + sign + row[at + 1:]] + rows[place + 1:]
                        refused_unchanged(self, BadStore, lines_of, "\n".join(other) + "\n")

    def test_rows_left_out_twice_or_in_another_order_are_refused(self):
        rows = desk_of(*self.LINES).text.split("\n")[:-1]
        for other in (rows[1:], rows[:2] + rows[3:], rows[:2] + rows[1:], rows[::-1], [""] + rows, rows + [""],
                      rows[:2] + [""] + rows[2:], ["x"], [" "], ["0"]):
            for work in (lines_of, done_again):
                refused_unchanged(self, BadStore, work, "\n".join(other) + "\n")

    def test_figures_written_otherwise_are_refused(self):
        body = "0 open 1 1"
        for figure in (f"0{figure_of(body)}", f"+{figure_of(body)}", f"{figure_of(body)} ", ""):
            refused_unchanged(self, BadStore, lines_of, f"{body} {figure}\n")
        for head in ("00", "+0", "-0"):
            other = f"{head} open 1 1"
            refused_unchanged(self, BadStore, lines_of, f"{other} {figure_of(other)}\n")

    def test_done_again(self):
        for desk in some_desks():
            found = unchanged(self, done_again, desk.text)
            self.assertIs(found.__class__, Desk)
            self.assertEqual(state(found), state(desk))

    def test_done_again_of_a_text_cut_anywhere(self):
        desk = Desk()
        states = [state(desk)]
        for line in self.LINES:
            desk.do(line)
            states.append(state(desk))
        for place in range(len(desk.text) + 1):
            found = done_again(desk.text[:place])
            self.assertEqual(state(found), states[desk.text[:place].count("\n")])
        # It may go on from there.
        self.assertEqual(done_again(desk.text).say("size z"), "2")

    def test_lines_that_can_not_be_are_refused(self):
        for lines in (("dance",), ("paint 0 0 a",), ("open 9 9",), ("open 1 1", "paint 1 1 a"), ("open x 1",),
                      ("open 1 1", "merge a b c"), ("open 1 1", "paint 0 0 A"), ("rows",), ("",), ("open 1 1", "")):
            refused_unchanged(self, BadStore, done_again, written(*lines))

    def test_lines_that_are_no_deeds_are_refused(self):
        for lines in (("open 1 1", "rows"), ("open 1 1", "gaps", "paint 0 0 a"), ("open  1 1",), ("open 1 1 ",),
                      ("open 2 1", "paint 0 0\ta")):
            refused_unchanged(self, BadStore, done_again, written(*lines))


if __name__ == "__main__":
    unittest.main()
