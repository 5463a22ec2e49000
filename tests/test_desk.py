import random
import unittest

from callfold.bestways import best_ways
from callfold.cases import best_marks
from callfold.desk import Desk
from callfold.errors import (BadRun, Called, NoBack, NoDeed, NoMark, NoRow, NoText, Ringed, TooBig, TooDeep, TooLong,
                             TooMany, Twice, WrongCount)
from callfold.folding import fold_book, folded_size
from callfold.freest import freest_marks
from callfold.gains import count_calls, gain_of, time_of
from callfold.texts import book_text, read_book
from callfold.ways import gone_ways
from shapes import deed, num

# main p breaks behind one said value by 0, goes too deep by 1, is too long by 2, else is done.
TEXT = """deed main p
say p
set q (6/p)
when (p=1)
call x round 8
else
end
when (p=2)
turn 9
call x long 9
end
else
end
turn p
call x leaf 40 (x+q)
end
call x mid 4 x
give x
deed mid n
call m leaf 7 n
give (m+1)
deed leaf k
set j (k*2)
give j
deed round
call y round 1
give y
deed long
turn 9
turn 9
say 5
end
end
give 0"""

SILENT = "deed a\ncall x b 3\ngive x\ndeed b\ngive 7"


def big_text(says):
    """Folded by 0 to 9 it has a size of 786 and so many says."""
    rows = ["deed main"] + [f"call x mid {mark}" for mark in range(5)] + ["say 1"] * says + ["give x"]
    rows += ["deed mid"] + [f"call x low {mark}" for mark in range(5, 10)] + ["say 1"] * 15 + ["give x"]
    rows += ["deed low"] + [f"set {name} 1" for name in "abcdefg"] + ["say 1"] * 13 + ["give 0"]
    return "\n".join(rows)


class Answered(unittest.TestCase):
    def setUp(self):
        self.desk = Desk(TEXT)
        self.book = read_book(TEXT)

    def said(self, *pairs):
        for row, answer in pairs:
            self.assertEqual(self.desk.say(row), answer, row)

    def test_with_nothing_kept(self):
        self.said(("time 0", "0"), ("time 1000", "0"), ("gain 0", "0"), ("gain 1000", "0"),
                  ("best 9 2000", "gain 0"), ("best 9 0", "none"), ("free 9", "gain 0"), ("ways 9 60", "gain 0"),
                  ("show", TEXT), ("run 3", "gives 57 said 3"))

    def test_with_runs_kept(self):
        self.said(("keep 3", "ok"), ("keep 7", "ok"))
        runs = [[3], [7]]
        counts = count_calls(self.book, runs)
        self.assertEqual(counts, {1: 0, 4: 2, 7: 2, 8: 0, 9: 0, 40: 10})
        for price in [0, 1, 2, 10, 1000]:
            self.said((f"time {price}", str(time_of(self.book, runs, price))), (f"gain {price}", "0"))
        # Own names: two of each leaf and mid; 10 calls of 40, 2 of 4, 2 of 7.
        self.said(("best 5 2000", "gain 42 marks 4 7 40"), ("free 5", "gain 42 marks 4 7 40"), ("ways 5 60", "gain 42"))
        self.said(("best 1 2000", "gain 0"), ("free 1", "gain 0"), ("ways 1 60", "gain 0"))

    def test_with_marks_kept(self):
        self.said(("keep 3", "ok"), ("fold 40", "size " + str(folded_size(self.book, [40]))))
        self.said(("gain 5", "9"), ("gain 2", "0"), ("gain 0", "-6"), ("gain 1", "-3"))
        folded = fold_book(self.book, [40])
        self.said(("show", book_text(folded)), ("run 3", "gives 57 said 3"))
        for price in [0, 5, 1000]:
            self.said((f"time {price}", str(time_of(folded, [[3]], price))))
        # These are asked of the book, not of the folded one.
        self.said(("best 5 2000", "gain 15 marks 4 7 40"), ("free 5", "gain 15 marks 4 7 40"), ("ways 5 60", "gain 15"))

    def test_fold_in_any_order(self):
        size = folded_size(self.book, [4, 7, 40])
        for row in ["fold 4 7 40", "fold 40 7 4", "fold 7 40 4"]:
            self.said((row, f"size {size}"), ("show", book_text(fold_book(self.book, [4, 7, 40]))))

    def test_fold_of_no_marks(self):
        self.said(("fold 4", "size " + str(folded_size(self.book, [4]))),
                  ("fold", "size " + str(folded_size(self.book, []))), ("show", TEXT))

    def test_fold_takes_the_place_of_those_ahead(self):
        self.said(("fold 4", "size " + str(folded_size(self.book, [4]))),
                  ("fold 7", "size " + str(folded_size(self.book, [7]))),
                  ("show", book_text(fold_book(self.book, [7]))))

    def test_runs_that_say_and_give(self):
        self.said(("run 3", "gives 57 said 3"), ("run 0", "breaks said 0"))
        silent = Desk(SILENT)
        self.assertEqual([silent.say("run"), silent.say("fold 3"), silent.say("run")], ["gives 7", "size 2", "gives 7"])
        broken = Desk("deed a p\nsay p\nsay (p+1)\nsay (p/0)\ngive 0")
        self.assertEqual(broken.say("run 999999"), "breaks said 999999 0")
        self.assertEqual(Desk("deed a\ngive (1/0)").say("run"), "breaks")
        self.assertEqual(Desk("deed a\nsay 4\nsay 4\nsay 0\ngive 0").say("run"), "gives 0 said 4 4 0")

    def test_values_and_numbers_at_their_bounds(self):
        wide = Desk("deed a p q\nsay p\ngive q")
        self.assertEqual(wide.say("run 999999 0"), "gives 0 said 999999")
        self.assertEqual(wide.say("keep 0 999999"), "ok")
        self.assertEqual([wide.say("time 1000"), wide.say("gain 1000"), wide.say("free 1000")], ["1", "0", "gain 0"])
        self.assertEqual([wide.say("best 1000 2000"), wide.say("ways 1000 60")], ["gain 0", "gain 0"])
        self.assertEqual(Desk("deed a\ncall x b 99\ngive 0\ndeed b\ngive 0").say("fold 99"), "size 2")

    def test_the_room_and_the_size_count(self):
        self.said(("keep 3", "ok"))
        runs = [[3]]
        gone = gone_ways(self.book, runs)
        for room in range(0, 12):
            self.said((f"ways 7 {room}", "gain " + str(best_ways(self.book, gone, 7, room)[0])))
        seen = {}
        for size in range(20, 40):
            told = best_marks(self.book, count_calls(self.book, runs), 7, size)
            answer = self.desk.say(f"best 7 {size}")
            seen[answer] = True
            self.assertEqual(answer.split(" marks ")[0], "none" if told[0] == "none" else f"gain {told[1]}")
        self.assertGreater(len(seen), 3)

    def test_a_size_above_800(self):
        desk = Desk(big_text(15))
        self.assertEqual(desk.say("keep"), "ok")
        self.assertEqual(desk.say("fold 0 1 2 3 4 5 6 7 8 9"), "size 801")
        for row in ["run", "run 1", "show", "time 5"]:
            with self.assertRaises(TooBig):
                desk.say(row)
        self.assertEqual(desk.say("gain 100"), str(5 * 99 + 25 * 93))
        self.assertEqual(desk.say("keep"), "ok")
        self.assertEqual(desk.say("back"), "ok")
        self.assertEqual(desk.say("back"), "ok")
        self.assertEqual(desk.say("run").split(" ")[:3], ["gives", "0", "said"])
        desk = Desk(big_text(14))
        self.assertEqual(desk.say("fold 9 8 7 6 5 4 3 2 1 0"), "size 800")
        self.assertEqual(len(desk.say("show").split("\n")), 801)

    def test_nothing_is_kept_of_what_is_asked(self):
        self.said(("keep 3", "ok"), ("fold 7", "size " + str(folded_size(self.book, [7]))))
        rows = ["run 3", "show", "time 5", "gain 5", "best 5 100", "free 5", "ways 5 9"]
        answers = [self.desk.say(row) for row in rows]
        self.assertEqual([self.desk.say(row) for row in rows], answers)

    def test_desks_do_not_share(self):
        other = Desk(TEXT)
        self.said(("keep 3", "ok"), ("fold 7", "size " + str(folded_size(self.book, [7]))))
        self.assertEqual([other.say("time 5"), other.say("show")], ["0", TEXT])
        with self.assertRaises(NoBack):
            other.say("back")


class Back(unittest.TestCase):
    def setUp(self):
        self.desk = Desk(TEXT)

    def state(self):
        return [self.desk.say(row) for row in ["time 7", "show", "gain 9", "free 9", "ways 9 60"]]

    def test_with_nothing_left(self):
        with self.assertRaises(NoBack):
            self.desk.say("back")
        self.desk.say("keep 3")
        self.assertEqual(self.desk.say("back"), "ok")
        with self.assertRaises(NoBack):
            self.desk.say("back")
        self.assertEqual(self.desk.say("time 9"), "0")

    def test_behind_keeps_and_folds(self):
        rows = ["keep 3", "fold 40", "keep 7", "keep 7", "fold 4 7", "fold", "fold 4 7 40", "keep 9"]
        states = [self.state()]
        for row in rows:
            self.desk.say(row)
            states.append(self.state())
        for state in reversed(states[:-1]):
            self.assertEqual(self.desk.say("back"), "ok")
            self.assertEqual(self.state(), state)
        with self.assertRaises(NoBack):
            self.desk.say("back")

    def test_what_is_taken_back_stays_so(self):
        self.desk.say("keep 3")
        one = self.state()
        self.desk.say("keep 7")
        self.desk.say("back")
        self.desk.say("fold 40")
        self.desk.say("back")
        self.assertEqual(self.state(), one)
        self.desk.say("back")
        with self.assertRaises(NoBack):
            self.desk.say("back")

    def test_behind_refused_rows(self):
        self.desk.say("keep 3")
        state = self.state()
        self.desk.say("fold 40")
        for row in ["fold 1", "fold 5", "keep 0", "keep 1", "keep", "fold 40 40", "back 1", "run 1", "sing"]:
            with self.assertRaises((NoMark, Ringed, BadRun, WrongCount, NoRow, TooDeep)):
                self.desk.say(row)
        self.assertEqual(self.desk.say("back"), "ok")
        self.assertEqual(self.state(), state)

    def test_behind_rows_that_only_ask(self):
        self.desk.say("keep 3")
        for row in ["run 3", "show", "time 5", "gain 5", "best 5 100", "free 5", "ways 5 9"]:
            self.desk.say(row)
        self.assertEqual(self.desk.say("back"), "ok")
        with self.assertRaises(NoBack):
            self.desk.say("back")

    def test_room_for_six_again(self):
        for _ in range(6):
            self.desk.say("keep 3")
        with self.assertRaises(TooMany):
            self.desk.say("keep 3")
        self.desk.say("back")
        self.assertEqual(self.desk.say("keep 3"), "ok")

    def test_a_fold_of_the_same_marks_counts_as_one(self):
        self.desk.say("fold 40")
        self.desk.say("fold 40")
        self.desk.say("back")
        self.desk.say("back")
        with self.assertRaises(NoBack):
            self.desk.say("back")


class NoRows(unittest.TestCase):
    def setUp(self):
        self.desk = Desk(TEXT)
        self.desk.say("keep 3")
        self.desk.say("fold 40")
        self.before = self.state()

    def state(self):
        return [self.desk.say(row) for row in ["time 7", "show", "gain 9", "free 9", "ways 9 60"]]

    def refused(self, *rows):
        for row in rows:
            with self.assertRaises(NoRow):
                self.desk.say(row)
        self.assertEqual(self.state(), self.before)

    def test_what_is_no_text(self):
        self.refused(None, 3, ["keep", "3"], ("back",), {"back": 1}, b"back", True)

    def test_another_first_word(self):
        self.refused("", "sing", "keeps 3", "kee 3", "Keep 3", "BACK", "sizes", "3", "say 3", "none", "end", "keep3",
                     "back,", "show\n", "\nshow", "show\tx", "sh\u00f6w")

    def test_words_too_many_or_too_few(self):
        self.refused("back 1", "back 1 2", "show 1", "time", "time 1 2", "gain", "gain 1 2", "free", "free 1 2",
                     "best", "best 1", "best 1 2 3", "ways", "ways 1", "ways 1 2 3")

    def test_two_blanks_and_a_blank_at_an_end(self):
        for row in ["keep 3", "fold 40", "run 3", "time 5", "gain 5", "free 5", "best 5 9", "ways 5 9"]:
            first, rest = row.split(" ", 1)
            self.refused(f"{first}  {rest}", f"{row} ", f" {row}", f"{row}\t", f"{row}\n")
        for row in ["back", "show", "keep", "fold", "run"]:
            self.refused(f"{row} ", f" {row}", f"{row}  ")
        self.refused(" ", "  ", "best 5  9", "ways 5  9", "run 3  3")

    def test_each_number_one_above_its_bound(self):
        self.refused("keep 1000000", "run 1000000", "fold 100", "time 1001", "gain 1001", "free 1001", "best 1001 9",
                     "best 9 2001", "ways 1001 9", "ways 9 61", "best 1001 2001", "ways 1001 61", "fold 40 100")

    def test_a_nought_ahead_and_below_0(self):
        for word in ["03", "00", "-1", "-0", "+3", "3.0", "0x3", "1e1", "three", "1_0", "", "3\n", "\u0663", "(3)",
                     "x"]:
            self.refused(f"keep {word}", f"run {word}", f"fold {word}", f"time {word}", f"gain {word}", f"free {word}",
                         f"best {word} 9", f"best 9 {word}", f"ways {word} 9", f"ways 9 {word}")
        self.refused("keep 3 x", "run x 3", "fold 40 04", "keep " + "9" * 5000, "time " + "0" * 5000)

    def test_a_mark_twice(self):
        self.refused("fold 40 40", "fold 4 7 4", "fold 55 55", "fold 8 8", "fold 99 99", "fold 1 1")

    def test_noughts_themselves(self):
        self.assertEqual(self.desk.say("ways 0 0"), "gain 0")
        self.assertEqual(self.desk.say("best 0 0"), "none")
        self.assertEqual(self.desk.say("run 0"), "breaks said 0")
        self.assertEqual(self.desk.say("time 0"), str(time_of(fold_book(read_book(TEXT), [40]), [[3]], 0)))

    def test_no_row_goes_first(self):
        desk = Desk(big_text(15))
        for _ in range(6):
            desk.say("keep")
        desk.say("fold 0 1 2 3 4 5 6 7 8 9")
        for row in ["keep x", "keep 1000000", "run x", "show 1", "time 1001", "best 1001 1", "fold 11 11",
                    "fold 11 100"]:
            with self.assertRaises(NoRow):
                desk.say(row)
        fresh = Desk(SILENT)
        with self.assertRaises(NoRow):
            fresh.say("back 1")


class Refused(unittest.TestCase):
    def setUp(self):
        self.desk = Desk(TEXT)

    def state(self):
        return [self.desk.say(row) for row in ["time 7", "show", "gain 9", "free 9", "ways 9 60"]]

    def refused(self, error, row):
        before = self.state()
        with self.assertRaises(error) as caught:
            self.desk.say(row)
        self.assertIs(type(caught.exception), error)
        self.assertEqual(self.state(), before)
        return caught.exception

    def test_keep_with_a_run_that_is_not_told_as_done(self):
        for many in range(6):
            for row in ["keep 0", "keep 1", "keep 2"]:
                self.assertEqual(self.refused(BadRun, row).run, many)
            self.desk.say("fold 40" if many % 2 else "fold")
            self.desk.say("keep 3")

    def test_keep_with_a_wrong_count(self):
        self.refused(WrongCount, "keep")
        self.refused(WrongCount, "keep 0 0")
        self.refused(WrongCount, "keep 3 3")
        self.refused(WrongCount, "keep 1 2 3 4 5 6 7 8 9")

    def test_keep_with_six_kept(self):
        for _ in range(6):
            self.desk.say("keep 3")
        for row in ["keep 3", "keep 0", "keep", "keep 3 3"]:
            self.refused(TooMany, row)

    def test_keep_is_of_the_book_and_not_of_the_folded_one(self):
        # Folded, the run is not too deep any more: it isn't kept for all that.
        text = "deed main p\ncall x down 1 p\ngive x\ndeed down n\nwhen n\ncall y down 2 (n-1)\nelse\nend\ngive y"
        self.desk = Desk(text)
        self.refused(BadRun, "keep 19")
        self.refused(TooDeep, "run 19")
        self.desk.say("fold 1")
        self.refused(BadRun, "keep 19")
        self.assertEqual(self.desk.say("run 19"), "gives 0")

    def test_fold_refused(self):
        self.refused(NoMark, "fold 5")
        self.refused(NoMark, "fold 4 7 99")
        self.refused(NoMark, "fold 0")
        ringed = self.refused(Ringed, "fold 1")
        self.assertEqual(ringed.ring, [1])
        self.refused(Ringed, "fold 40 1 4")
        self.refused(NoMark, "fold 1 5")
        self.refused(NoMark, "fold 5 1")

    def test_run_refused(self):
        self.refused(WrongCount, "run")
        self.refused(WrongCount, "run 3 3")
        self.refused(TooDeep, "run 1")
        self.refused(TooLong, "run 2")
        self.desk.say("fold 4 40")
        self.refused(WrongCount, "run")
        self.refused(TooDeep, "run 1")

    def test_of_the_folded_book_the_folding_first(self):
        self.desk = Desk(big_text(15))
        self.desk.say("fold 0 1 2 3 4 5 6 7 8 9")
        for row in ["run", "run 1 2", "show", "time 5"]:
            with self.assertRaises(TooBig):
                self.desk.say(row)

    def test_best_and_free_and_ways_refused(self):
        nine = ["deed a"] + [f"call x b {mark}" for mark in range(9)] + ["give 0", "deed b", "give 0"]
        self.desk = Desk("\n".join(nine))
        self.refused(TooMany, "best 5 100")
        self.assertEqual(self.desk.say("free 5"), "gain 0")
        seven = "\n".join(f"deed {name}\ngive 0" for name in "abcdefg")
        desk = Desk(seven)
        with self.assertRaises(TooMany):
            desk.say("free 5")
        self.assertEqual(desk.say("best 5 100"), "gain 0")
        called = Desk("deed a\ngive 0\ndeed b\ncall x a 1\ngive 0")
        with self.assertRaises(Called):
            called.say("ways 5 9")
        called.say("keep")
        with self.assertRaises(Called):
            called.say("ways 5 9")

    def test_ways_with_thirteen_gone(self):
        self.desk = Desk("deed main p\ncall x b 1 p\ngive x\ndeed b n\nwhen n\ncall y b 2 (n-1)\nelse\nend\ngive y")
        self.assertEqual([self.desk.say("keep 11"), self.desk.say("ways 9 60")], ["ok", "gain 84"])
        self.desk.say("keep 12")
        with self.assertRaises(TooMany):
            self.desk.say("ways 9 60")
        self.desk.say("back")
        self.assertEqual(self.desk.say("ways 9 60"), "gain 84")


class Made(unittest.TestCase):
    def test_of_a_text_that_read_book_refuses(self):
        for text, error in [("", NoText), ("deed a", NoText), ("deed a\ngive 0\n", NoText),
                            ("deed a\ngive x.1", NoText),
                            ("deed a\ngive 0\ndeed a\ngive 0", Twice), ("deed a\ncall x b 1\ngive 0", NoDeed),
                            ("deed a\ncall x b 1 2\ngive 0\ndeed b\ngive 0", WrongCount)]:
            with self.assertRaises(error):
                Desk(text)
        with self.assertRaises(NoText) as caught:
            Desk("deed a\nsay 1\nsay (\ngive 0")
        self.assertEqual(caught.exception.row, 2)

    def test_of_told_texts(self):
        text = book_text((deed("a", ("p",), [("say", num(3))]),))
        self.assertEqual(Desk(text).say("show"), text)


class AgainstTheFunctions(unittest.TestCase):
    """A desk with many rows said to it, against runs and marks kept beside it."""

    texts = [TEXT, SILENT, "deed a p\nturn p\ncall x b 2 x\nend\ncall x c 5 1 2\ngive x\n"
             "deed b q\nsay q\ncall y c 9 q q\ngive (y+1)\ndeed c r s\nset t (r*s)\ngive (t+1)"]

    def test_by_chance(self):
        chance = random.Random(261)
        for text in self.texts:
            book = read_book(text)
            desk = Desk(text)
            past = []
            runs, marks = [], []
            for _ in range(150):
                row, state = self.drawn_row(chance, desk, book, runs, marks)
                if row == "back":
                    if past:
                        self.assertEqual(desk.say("back"), "ok")
                        runs, marks = past.pop()
                    else:
                        with self.assertRaises(NoBack):
                            desk.say("back")
                elif state is not None:
                    past.append((runs, marks))
                    runs, marks = state
                self.hold(desk, book, runs, marks)

    def drawn_row(self, chance, desk, book, runs, marks):
        """Says a row, and tells it with what is kept now, None where that stays."""
        kind = chance.choice(["keep", "keep", "fold", "back", "wrong"])
        if kind == "keep" and len(runs) < 6:
            values = [chance.choice([3, 4, 5]) for _ in book[0][1]]
            row = " ".join(["keep"] + [str(value) for value in values])
            self.assertEqual(desk.say(row), "ok")
            return row, (runs + [values], marks)
        if kind == "fold":
            chosen = [mark for mark in count_calls(book, []) if mark != 1 and chance.random() < 0.5]
            row = " ".join(["fold"] + [str(mark) for mark in chance.sample(chosen, len(chosen))])
            self.assertEqual(desk.say(row), f"size {folded_size(book, chosen)}")
            return row, (runs, chosen)
        if kind == "back":
            return "back", None
        with self.assertRaises(NoRow):
            desk.say("keep fold")
        return "wrong", None

    def hold(self, desk, book, runs, marks):
        folded = fold_book(book, marks)
        counts = count_calls(book, runs)
        self.assertEqual(desk.say("show"), book_text(folded))
        self.assertEqual(desk.say("time 6"), str(time_of(folded, runs, 6)))
        self.assertEqual(desk.say("gain 6"), str(gain_of(book, counts, 6, marks)))
        self.assertEqual(int(desk.say("time 6")) + int(desk.say("gain 6")), time_of(book, runs, 6))
        self.assertEqual(desk.say("free 6").split(" ")[1], str(freest_marks(book, counts, 6)[0]))
        self.assertEqual(desk.say("ways 6 9"), f"gain {best_ways(book, gone_ways(book, runs), 6, 9)[0]}")
        self.hold_marks(book, counts, desk.say("best 6 25"))

    def hold_marks(self, book, counts, answer):
        told = best_marks(book, counts, 6, 25)
        if told[0] == "none":
            self.assertEqual(answer, "none")
            return
        head, word, rest = answer.partition(" marks ")
        self.assertEqual(head, f"gain {told[1]}")
        marks = [int(mark) for mark in rest.split(" ") if mark]
        self.assertEqual(gain_of(book, counts, 6, marks), told[1])
        self.assertLessEqual(folded_size(book, marks), 25)


if __name__ == "__main__":
    unittest.main()
