"""The rule language [4.1] to [4.8]."""

import itertools
import random

from cutworths.boards import Board
from cutworths.errors import BadBoard, BadEdit, BadRules, BadText
from cutworths.rules import Rules
from cutworths.ruletext import print_edit, print_rules, read_edit, read_rules
from tests.base import Case, NO_NAMES, NO_NUMBERS, NO_SEQUENCES
from tests.games import plain_rules, random_rules
from tests.test_edits import NO_EDITS, some_edits

PLAIN = """worths 4
cells 4
arrow go 0-1 1-2 2-3
arrow back 2-1 3-0
kind dot 0
kind ant 1
kind king 0
move pass 1
move place dot 0 3
move step dot go
move take ant back
move turn dot king
end 3 if holds 2 dot
end 1 if row go dot 2
end 0 if gone ant
end 2 if stuck
end 3 if ( gone dot and ( ) and ( ( stuck ) ) )
none 0
still 3 1
left 3
start . dot . ant
side 1"""
# Words that are no numbers, names, contents and edges, none of them with a bracket or a blank.
NO_NUMBER_WORDS = ("x", "-1", "+1", "01", "00", "100", "1.0", "", "1-2", "\u0661", "\u00b2", "1_0", "0x1", "1,", ".", "1\t",
                   "\r", "'1'")
NO_NAME_WORDS = ("Dot", "dot1", "1", "abcdefghi", ".", "d-t", "\u00e4", "#", "dot,", "dot\t", "_", "D", "dot\r", "'dot'")
NO_EDGE_WORDS = ("0", "0-", "-1", "0-1-2", "0--1", "a-b", "0-b", "00-1", "0-01", "100-1", "0-100", "0_1", "0-1,", "-", ".",
                 "0\u20111", "0-\u0661", "--")
NO_CONTENT_WORDS = ("..", "Dot", "0", "abcdefghi", "-", "#", ",", ".dot", "\u00e4", "_")


def changed_row(number, row):
    """The plain text with another row in the place of one."""
    rows = PLAIN.split("\n")
    rows[number] = row
    return "\n".join(rows)


class TextCase(Case):
    def bad_row(self, row, what, word):
        """The row is faulty wherever a text has it, and the rows behind it are not looked at."""
        told = {"what": what, "row": 0, "word": word}
        self.refused(BadText, told, read_rules, row)
        self.refused(BadText, told, read_rules, row + "\nnonsense\n" + PLAIN)
        self.refused(BadText, {**told, "row": 3}, read_rules, "\n#\n   \n" + row + "\n" + PLAIN)

    def bad_edit(self, row, what, word):
        self.refused(BadText, {"what": what, "row": 0, "word": word}, read_edit, row)


class TestReadRules(TextCase):
    def test_the_plain_text(self):
        self.assertEqual(read_rules(PLAIN), plain_rules())

    def test_rows_stand_in_any_order(self):
        draw = random.Random(1)
        rows = PLAIN.split("\n")
        numbered = ("arrow", "kind", "move", "end")
        for _ in range(40):
            mixed = rows[:]
            draw.shuffle(mixed)
            # Each row of a numbered kind goes where one of its kind stands, so that their own order stays.
            for word in numbered:
                own = iter([row for row in rows if row.startswith(word)])
                mixed = [next(own) if row.startswith(word) else row for row in mixed]
            self.assertEqual(read_rules("\n".join(mixed)), plain_rules())
        self.assertEqual(read_rules("\n".join(rows[::-1])),
                         plain_rules(board=Board(4, plain_rules().board.arrows[::-1]), kinds=plain_rules().kinds[::-1],
                                     moves=plain_rules().moves[::-1], ends=plain_rules().ends[::-1]))

    def test_blanks_and_rows_without_meaning(self):
        self.assertEqual(read_rules("\n\n   \n# worths 3\n  #x\n" + PLAIN + "\n#(\n \n"), plain_rules())
        self.assertEqual(read_rules(PLAIN.replace(" ", "   ")), plain_rules())
        self.assertEqual(read_rules("\n".join(f"  {row} " for row in PLAIN.split("\n"))), plain_rules())
        self.assertEqual(read_rules(PLAIN.replace("\n", "\n#(x) ((\n\n")), plain_rules())

    def test_brackets_are_words_without_blanks(self):
        self.assertEqual(read_rules(PLAIN.replace(" ( ", "(").replace(" ) ", ")").replace(" )", ")")), plain_rules())
        self.assertEqual(read_rules(changed_row(16, "end 3 if(gone dot and()and((stuck)))")), plain_rules())
        self.exactly(read_rules(changed_row(16, "end 1 if (holds 1 dot and stuck)")).ends[4],
                     (("all", (("holds", 1, "dot"), ("stuck",))), 1))
        self.exactly(read_rules(changed_row(16, "end 1 if ()")).ends[4], (("all", ()), 1))
        self.exactly(read_rules(changed_row(16, "end 1 if ( stuck )")).ends[4], (("all", (("stuck",),)), 1))
        self.exactly(read_rules(changed_row(16, "end 1 if ((()))")).ends[4], (("all", (("all", (("all", ()),)),)), 1))
        self.exactly(read_rules(changed_row(16, "end 1 if ((stuck) and (stuck))")).ends[4],
                     (("all", (("all", (("stuck",),)), ("all", (("stuck",),)))), 1))
        self.bad_row("(worths 3)", "word", 0)
        self.bad_row("worths(3)", "number", 1)
        self.bad_row("arrow go 0-1(1-2)", "edge", 3)

    def test_only_line_feeds_part_rows_and_only_blanks_part_words(self):
        for sign in ("\r", "\t", "\x0b", "\x0c", "\x1c", "\x85", "\u2028", "\u00a0"):
            self.bad_row(f"left 3{sign}", "number", 1)
            self.bad_row(f"left{sign}3", "word", 0)
            self.bad_row(f"{sign}", "word", 0)
            self.bad_row(f"{sign}# nothing", "word", 0)

    def test_what_is_no_text(self):
        for thing in (None, 3, True, b"worths 3", ["worths 3"], (), {}):
            self.refused(BadText, {"what": "text", "row": 0, "word": 0}, read_rules, thing)
            self.refused(BadText, {"what": "text", "row": 0, "word": 0}, read_edit, thing)

    def test_forty_thousand_characters_are_the_most(self):
        long = PLAIN + "\n#"
        long = long + "x" * (40000 - len(long))
        self.assertEqual(read_rules(long), plain_rules())
        for text in (long + "x", long + "\n", "x" * 40001, " " * 40001):
            self.refused(BadText, {"what": "text", "row": 0, "word": 0}, read_rules, text)
        self.refused(BadText, {"what": "word", "row": 0, "word": 0}, read_rules, "x" * 40000)
        self.refused(BadText, {"what": "missing", "row": 40001, "word": 0}, read_rules, "\n" * 40000)

    def test_first_words(self):
        for word in ("", "x", "Worths", "rule", "move:", "moves", "(", ")", ".", "3", "if", "pass", "holds", "no#"):
            if word:
                self.bad_row(word, "word", 0)
                self.bad_row(word + " 3 3 3", "word", 0)

    def test_numbers(self):
        rows = [("worths {}", 1), ("cells {}", 1), ("kind dot {}", 2), ("move pass {}", 2), ("move place dot {}", 3),
                ("move place dot 0 {}", 4), ("move place dot 0 {} x", 4), ("end {} if stuck", 1), ("end 3 if holds {} dot", 4),
                ("end 3 if row go dot {}", 6), ("none {}", 1), ("still {} 1", 1), ("still 1 {}", 2), ("left {}", 1),
                ("side {}", 1), ("end 3 if ( stuck and holds {} dot )", 7), ("end {} x", 1), ("still {}", 1)]
        for form, at in rows:
            for word in NO_NUMBER_WORDS:
                if word:
                    self.bad_row(form.format(word), "number", at)
            self.bad_row(form.format("("), "number", at)

    def test_all_numbers(self):
        for number in range(100):
            self.exactly(read_edit(f"left {number}"), ("left", number))
            self.exactly(read_edit(f"cell {number} ."), ("cell", number, ""))

    def test_names(self):
        rows = [("arrow {} 0-1", 1), ("arrow {} x", 1), ("kind {} 0", 1), ("kind {} x", 1), ("move place {} 0", 2),
                ("move step {} go", 2), ("move step dot {}", 3), ("move take {} go", 2), ("move take dot {}", 3),
                ("move turn {} ant", 2), ("move turn dot {}", 3), ("end 1 if holds 0 {}", 5), ("end 1 if row {} dot 2", 4),
                ("end 1 if row go {} 2", 5), ("end 1 if gone {}", 4), ("end 1 if ( gone {}", 5), ("kind {} ( )", 1)]
        for form, at in rows:
            for word in NO_NAME_WORDS:
                self.bad_row(form.format(word), "name", at)
            self.bad_row(form.format("("), "name", at)

    def test_edges(self):
        for word in NO_EDGE_WORDS + ("(", ")"):
            self.bad_row(f"arrow go {word}", "edge", 2)
            self.bad_row(f"arrow go 0-1 99-0 {word} 5", "edge", 4)
        self.bad_row("arrow go 0 - 1", "edge", 2)
        self.bad_row("arrow go 0- 1", "edge", 2)

    def test_contents(self):
        for word in NO_CONTENT_WORDS + ("(",):
            self.bad_row(f"start {word}", "content", 1)
            self.bad_row(f"start . dot {word} 5", "content", 3)

    def test_words_that_are_due(self):
        for word in ("x", "Pass", "steps", "(", "1", "holds", "passes"):
            self.bad_row(f"move {word}", "word", 1)
            self.bad_row(f"move {word} dot go", "word", 1)
        for word in ("x", "If", "(", "stuck", "1", "when"):
            self.bad_row(f"end 1 {word} stuck", "word", 2)
        for word in ("x", "Stuck", ")", "and", "1", "all", "if", "hold"):
            self.bad_row(f"end 1 if {word}", "word", 3)
            self.bad_row(f"end 1 if ( stuck and {word} )", "word", 6)
            self.bad_row(f"end 1 if ( ( stuck and {word} )", "word", 7)
        for word in ("x", "and", "1", "all", "if"):
            self.bad_row(f"end 1 if ( {word}", "word", 4)
            self.bad_row(f"end 1 if ( ( {word} ) )", "word", 5)
        for word in ("x", "stuck", "(", "1", "or", "And", "all", ","):
            self.bad_row(f"end 1 if ( stuck {word} stuck )", "word", 5)
            self.bad_row(f"end 1 if ( holds 1 dot {word} stuck )", "word", 7)
            self.bad_row(f"end 1 if ( ( ) {word}", "word", 6)

    def test_twice(self):
        for row in ("worths 4", "cells 4", "none 0", "still 3 1", "left 3", "start . dot", "side 1"):
            word = row.split()[0]
            for rest in (row, word, word + " x y z", word + "(", row + " 5 5 5 5"):
                self.refused(BadText, {"what": "twice", "row": 23, "word": 0}, read_rules, PLAIN + "\n\n" + rest + "\nx")
                self.refused(BadText, {"what": "twice", "row": 2, "word": 0}, read_rules, f"#\n{row}\n  {rest}")

    def test_deep(self):
        self.bad_row("end 1 if ((((", "deep", 6)
        self.bad_row("end 1 if ( ( ( ( ) ) ) )", "deep", 6)
        self.bad_row("end 1 if (stuck and (stuck and (stuck and (x", "deep", 12)
        self.bad_row("end 1 if ( ( ( ) and ( ) and ( ( stuck", "deep", 12)

    def test_short(self):
        rows = ("worths", "cells", "none", "left", "side", "start", "still", "still 1", "arrow", "kind", "kind dot", "move",
                "move pass", "move place", "move place dot", "move step", "move step dot", "move take", "move take dot",
                "move turn", "move turn dot", "end", "end 1", "end 1 if", "end 1 if holds", "end 1 if holds 0",
                "end 1 if row", "end 1 if row go", "end 1 if row go dot", "end 1 if gone", "end 1 if (", "end 1 if ( stuck",
                "end 1 if ( stuck and", "end 1 if ( ( stuck )", "end 1 if ( ( )", "end 1 if ( ( ( ) )", "end 1 if ( gone",
                "end 1 if ( ( (", "end 1 if ( stuck and ( stuck )")
        for row in rows:
            self.bad_row(row, "short", len(row.split()))
            self.bad_row("  " + row + "   ", "short", len(row.split()))

    def test_long(self):
        rows = ("worths 3", "cells 3", "none 3", "left 3", "side 3", "still 1 2", "kind dot 0", "move pass 1",
                "move step dot go", "move take dot go", "move turn dot ant", "end 1 if holds 1 dot", "end 1 if row go dot 2",
                "end 1 if gone dot", "end 1 if stuck", "end 1 if ( )", "end 1 if ( stuck and ( gone dot ) )")
        for row, rest in itertools.product(rows, ("x", "5", ") x", "( (", "and stuck", "#", ".")):
            self.bad_row(f"{row} {rest}", "long", len(row.split()))

    def test_missing(self):
        rows = PLAIN.split("\n")
        for number, word in enumerate(("worths", "cells", "none", "still", "left", "start", "side")):
            text = "\n".join(row for row in rows if row.split()[0] != word)
            self.refused(BadText, {"what": "missing", "row": 21, "word": number}, read_rules, text)
            self.refused(BadText, {"what": "missing", "row": 23, "word": number}, read_rules, "\n" + text + "\n")
            text = "\n".join(row for row in rows if row.split()[0] not in (word, "side"))
            self.refused(BadText, {"what": "missing", "word": number}, read_rules, text)
        self.refused(BadText, {"what": "missing", "row": 1, "word": 0}, read_rules, "")
        self.refused(BadText, {"what": "missing", "row": 3, "word": 1}, read_rules, "left 99\nworths 99\nside 99")
        self.refused(BadText, {"what": "word", "row": 1, "word": 0}, read_rules, "left 99\nrows")

    def test_the_first_fault_in_the_text_is_told(self):
        self.refused(BadText, {"what": "number", "row": 1, "word": 2}, read_rules, "left 3\nkind dot x y\nleft 3")
        self.refused(BadText, {"what": "name", "row": 0, "word": 1}, read_rules, "kind 3 x")
        self.refused(BadText, {"what": "long", "row": 0, "word": 2}, read_rules, "left 3 3\nleft 3")
        self.refused(BadText, {"what": "twice", "row": 1, "word": 0}, read_rules, "left 3\nleft\nx")

    def test_board_and_rules_are_made_behind_the_rows(self):
        for number, row, what, at in ((1, "cells 0", "size", 0), (1, "cells 10", "size", 0), (1, "cells 99", "size", 0),
                                      (2, "arrow back", "name", 1), (3, "arrow up 0-4", "edge", 1),
                                      (2, "arrow go 1-1", "edge", 0), (2, "arrow go" + " 0-1" * 25, "edges", 0),
                                      (1, "cells 3", "edge", 0), (3, "\n".join(["arrow a"] * 6), "arrows", 0)):
            self.refused(BadBoard, {"what": what, "at": at}, read_rules, changed_row(number, row))
            self.refused(BadBoard, {"what": what, "at": at}, read_rules, changed_row(number, row).replace("left 3", "left 9"))
        for number, row, what, at in (
                (0, "worths 0", "worths", 0), (0, "worths 17", "worths", 0), (0, "worths 3", "end", 0),
                (5, "kind dot 1", "kind", 1), (5, "kind ant 2", "kind", 1),
                (4, "\n".join(["kind a 0"] * 7), "kinds", 0), (8, "move place cat 0", "move", 1),
                (7, "move pass 2", "move", 0), (8, "move place dot 4", "move", 1), (9, "move step dot up", "move", 2),
                (11, "move turn dot dot", "move", 4), (11, "\n".join(["move pass 0"] * 5), "moves", 0),
                (12, "end 4 if stuck", "end", 0), (13, "end 0 if row go dot 5", "end", 1),
                (14, "end 0 if holds 4 dot", "end", 2), (16, "end 0 if (stuck" + " and stuck" * 4 + ")", "end", 4),
                (16, "\n".join(["end 0 if stuck"] * 5), "ends", 0), (17, "none 4", "last", 0), (18, "still 0 99", "last", 0),
                (19, "left 9", "left", 0), (20, "start . . .", "start", 0), (20, "start . . . cat", "start", 0),
                (20, "start . . . . .", "start", 0), (21, "side 2", "side", 0)):
            self.refused(BadRules, {"what": what, "at": at}, read_rules, changed_row(number, row))

    def test_parts_that_may_be_left_out(self):
        text = "worths 1\ncells 1\nkind a 0\nnone 0\nstill 0 0\nleft 0\nstart .\nside 0"
        self.assertEqual(read_rules(text), Rules(Board(1, []), [("a", 0)], [], [], (0, 0, 0), 0, ("",), 0, 1))
        self.refused(BadRules, {"what": "kinds", "at": 0}, read_rules, text.replace("kind a 0\n", ""))


class TestPrintRules(Case):
    def test_the_plain_text(self):
        self.exactly(print_rules(plain_rules()), PLAIN)

    def test_every_text_is_read_back(self):
        for seed in range(300):
            rules = random_rules(seed)
            text = print_rules(rules)
            self.assertEqual(read_rules(text), rules)
            self.assertEqual(print_rules(read_rules(text)), text)
            self.assertEqual(text, "\n".join(" ".join(row.split()) for row in text.split("\n")))
            words = [row.split()[0] for row in text.split("\n")]
            ranks = [("worths", "cells", "arrow", "kind", "move", "end", "none", "still", "left", "start",
                      "side").index(word) for word in words]
            self.assertEqual(ranks, sorted(ranks))

    def test_the_longest_text(self):
        condition = ("row", "abcdefgh", "hgfedcba", 4)
        for _ in range(3):
            condition = ("all", [condition] * 4)
        edges = list(itertools.permutations(range(9), 2))[:24]
        arrows = [("abcdefgh"[:8 - n] + "z" * n, edges) for n in range(6)]
        kinds = [("hgfedcba"[:8 - n] + "z" * n, 1) for n in range(6)]
        rules = Rules(Board(9, arrows), kinds, [("place", "hgfedcba", list(range(9)))] * 8, [(condition, 15)] * 8,
                      (15, 15, 15), 8, ["hgfedcba"] * 9, 1, 16)
        self.assertEqual(read_rules(print_rules(rules)), rules)


class TestReadEdit(TextCase):
    def test_each_form(self):
        for text, edit in (
                ("put move 0 pass 1", ("put move", 0, ("pass", 1))),
                ("put move 99 place dot 3 0 3", ("put move", 99, ("place", "dot", (3, 0, 3)))),
                ("put move 1 step dot go", ("put move", 1, ("step", "dot", "go"))),
                (" put  move 1 take x y ", ("put move", 1, ("take", "x", "y"))),
                ("put move 2 turn dot dot", ("put move", 2, ("turn", "dot", "dot"))),
                ("put end 0 1 if holds 99 dot", ("put end", 0, (("holds", 99, "dot"), 1))),
                ("put end 5 99 if row go dot 77", ("put end", 5, (("row", "go", "dot", 77), 99))),
                ("put end 5 0 if(gone dot and stuck and()and((stuck)))",
                 ("put end", 5, (("all", (("gone", "dot"), ("stuck",), ("all", ()), ("all", (("all", (("stuck",),)),)))), 0))),
                ("drop move 7", ("drop move", 7)), ("drop end 0", ("drop end", 0)), ("left 8", ("left", 8)),
                ("last 0 3", ("last", 0, 3)), ("side 1", ("side", 1)), ("cell 3 dot", ("cell", 3, "dot")),
                ("   cell   3   .   ", ("cell", 3, "")), ("put end 0 1 if (" + " and ".join(["stuck"] * 50) + ")",
                                                         ("put end", 0, (("all", (("stuck",),) * 50), 1)))):
            self.exactly(read_edit(text), edit)

    def test_faults(self):
        for text, what, word in (
                ("", "short", 0), ("    ", "short", 0), ("x", "word", 0), ("#", "word", 0), ("# left 3", "word", 0),
                ("left\n3", "word", 0), ("\nleft 3", "word", 0), ("left 3\n", "number", 1), ("(left 3)", "word", 0),
                ("worths 3", "word", 0), ("move pass 0", "word", 0), ("end 1 if stuck", "word", 0), ("Left 3", "word", 0),
                ("put", "short", 1), ("put x", "word", 1), ("put left 3", "word", 1), ("drop", "short", 1),
                ("drop kind 1", "word", 1), ("drop (", "word", 1), ("put move", "short", 2), ("put move x", "number", 2),
                ("put move 0", "short", 3), ("put move 0 x", "word", 3), ("put move 0 move pass 1", "word", 3),
                ("put move 0 pass", "short", 4), ("put move 0 pass x", "number", 4), ("put move 0 pass 1 1", "long", 5),
                ("put move 0 place dot", "short", 5), ("put move 0 place dot x", "number", 5),
                ("put move 0 place dot 0 x", "number", 6), ("put move 0 step 1 go", "name", 4),
                ("put move 0 step dot 1", "name", 5), ("put move 0 step dot", "short", 5),
                ("put move 0 turn dot ant x", "long", 6), ("put end", "short", 2), ("put end 0", "short", 3),
                ("put end 0 x", "number", 3), ("put end 0 1", "short", 4), ("put end 0 1 x", "word", 4),
                ("put end 0 1 if", "short", 5), ("put end 0 1 if x", "word", 5), ("put end 0 1 if stuck x", "long", 6),
                ("put end 0 end 1 if stuck", "number", 3), ("put end 0 1 if ((((", "deep", 8),
                ("put end 0 1 if (stuck", "short", 7), ("put end 0 1 if (stuck x", "word", 7),
                ("put end 0 1 if ()) x", "long", 7), ("put end 0 1 if holds 100 dot", "number", 6),
                ("drop move", "short", 2), ("drop move x", "number", 2), ("drop move 1 2", "long", 3),
                ("drop end -1", "number", 2), ("left", "short", 1), ("left 3 3", "long", 2), ("left 100", "number", 1),
                ("last 1", "short", 2), ("last", "short", 1), ("last 1 x", "number", 2), ("last 1 2 3", "long", 3),
                ("side 0 #", "long", 2), ("cell 1", "short", 2), ("cell x", "number", 1), ("cell 1 X", "content", 2),
                ("cell 1 ..", "content", 2), ("cell 1 . .", "long", 3), ("cell 1 dot\n", "content", 2)):
            self.bad_edit(text, what, word)

    def test_forty_thousand_characters_are_the_most(self):
        self.exactly(read_edit("left 3" + " " * 39994), ("left", 3))
        self.refused(BadText, {"what": "text", "row": 0, "word": 0}, read_edit, "left 3" + " " * 39995)


class TestPrintEdit(Case):
    def test_each_form(self):
        for edit, text in (
                (("put move", 0, ["pass", 99]), "put move 0 pass 99"),
                (["put move", 99, ("place", "dot", [3, 0, 3])], "put move 99 place dot 3 0 3"),
                (("put move", 1, ("step", "dot", "dot")), "put move 1 step dot dot"),
                (("put move", 1, ("take", "x", "abcdefgh")), "put move 1 take x abcdefgh"),
                (("put move", 2, ("turn", "dot", "dot")), "put move 2 turn dot dot"),
                (("put end", 0, [["holds", 99, "dot"], 99]), "put end 0 99 if holds 99 dot"),
                (("put end", 5, (("row", "go", "dot", 0), 0)), "put end 5 0 if row go dot 0"),
                (("put end", 5, (("all", [("gone", "dot"), ("stuck",), ["all", ()], ("all", [("all", [("stuck",)])])]), 0)),
                 "put end 5 0 if ( gone dot and stuck and ( ) and ( ( stuck ) ) )"),
                (("put end", 0, (("all", [("stuck",)] * 6), 1)),
                 "put end 0 1 if ( stuck and stuck and stuck and stuck and stuck and stuck )"),
                (("drop move", 7), "drop move 7"), (["drop end", 0], "drop end 0"), (("left", 99), "left 99"),
                (("last", 50, 3), "last 50 3"), (("side", 7), "side 7"), (("cell", 9, "dot"), "cell 9 dot"),
                (("cell", 0, ""), "cell 0 .")):
            self.exactly(print_edit(edit), text)

    def test_every_edit_is_read_back(self):
        draw = random.Random(2)
        for seed in range(150):
            for edit in some_edits(draw, random_rules(seed)):
                text = print_edit(edit)
                self.assertEqual(print_edit(read_edit(text)), text)
                self.exactly(read_edit(text), self.plain(edit))

    def plain(self, thing):
        """The thing with tuples in the place of lists."""
        return tuple(self.plain(item) for item in thing) if isinstance(thing, (list, tuple)) else thing

    def refuse(self, edit):
        self.refused(BadEdit, {"what": "edit"}, print_edit, edit)

    def test_what_is_no_edit(self):
        for thing in NO_EDITS:
            self.refuse(thing)

    def test_numbers(self):
        for thing in NO_NUMBERS + (-1, 100, 5.0, {}):
            for edit in (("put move", thing, ("pass", 0)), ("put move", 0, ("pass", thing)),
                         ("put move", 0, ("place", "dot", [thing])), ("put move", 0, ("place", "dot", (0, 1, thing))),
                         ("put end", thing, (("stuck",), 0)), ("put end", 0, (("stuck",), thing)),
                         ("put end", 0, (("holds", thing, "dot"), 0)), ("put end", 0, (("row", "go", "dot", thing), 0)),
                         ("put end", 0, (("all", [("stuck",), ("holds", thing, "dot")]), 0)), ("drop move", thing),
                         ("drop end", thing), ("left", thing), ("last", thing, 0), ("last", 0, thing), ("side", thing),
                         ("cell", thing, "dot")):
                self.refuse(edit)

    def test_names(self):
        for thing in NO_NAMES:
            for edit in (("put move", 0, ("place", thing, [0])), ("put move", 0, ("step", thing, "go")),
                         ("put move", 0, ("step", "dot", thing)), ("put move", 0, ("take", thing, "go")),
                         ("put move", 0, ("take", "dot", thing)), ("put move", 0, ("turn", thing, "dot")),
                         ("put move", 0, ("turn", "dot", thing)), ("put end", 0, (("holds", 0, thing), 0)),
                         ("put end", 0, (("row", thing, "dot", 1), 0)), ("put end", 0, (("row", "go", thing, 1), 0)),
                         ("put end", 0, (("gone", thing), 0))):
                self.refuse(edit)
            if thing != "":
                self.refuse(("cell", 0, thing))
        self.refuse(("cell", 0, "."))

    def test_forms_within(self):
        for thing in NO_SEQUENCES + ((), ("pass",), ("pass", 0, 0), ("place", "dot"), ("place", "dot", []),
                                     ("place", "dot", ()), ("place", "dot", 0), ("place", "dot", "0"), ("go", "dot", "go"),
                                     ("place", "dot", [0], 0), ("step", "dot"), ("turn", "dot", "ant", "x"), ("stuck",),
                                     ("place", "dot", {0}), ("take",), (None, 0), (["pass"], 0)):
            self.refuse(("put move", 0, thing))
        for thing in NO_SEQUENCES + ((), ("holds", 0), ("holds", 0, "dot", 0), ("row", "go", "dot"), ("gone",), ("stuck", 0),
                                     ("gone", "dot", "dot"), ("all",), ("all", [], []), ("all", None), ("all", "stuck"),
                                     ("all", ("stuck",)), ("all", [("stuck",), ()]), ("pass", 0), ("x",), (0,),
                                     ("all", [("all", [("all", [("all", [])])])]),
                                     ("all", [("stuck",), ("all", [("all", [("stuck",), ("all", [("stuck",)])])])])):
            self.refuse(("put end", 0, (thing, 0)))
        for thing in NO_SEQUENCES + ((), (("stuck",),), (("stuck",), 0, 0), (0, ("stuck",))):
            self.refuse(("put end", 0, thing))

    def test_forty_thousand_characters_are_the_most(self):
        conditions = [("stuck",)] * 3997
        end = ("put end", 0, (("all", conditions + [("gone", "abcdef")]), 0))
        self.assertEqual(len(print_edit(end)), 40000)
        self.exactly(read_edit(print_edit(end)), self.plain(end))
        self.refuse(("put end", 0, (("all", conditions + [("gone", "abcdefg")]), 0)))
        self.refuse(("put end", 0, (("all", conditions + [("gone", "abcdef")]), 10)))
        cells = ("put move", 0, ("place", "a", [0] * ((40000 - len("put move 0 place a")) // 2)))
        self.assertEqual(len(print_edit(cells)), 40000)
        self.exactly(read_edit(print_edit(cells)), self.plain(cells))
        self.refuse(("put move", 0, ("place", "ab", cells[2][2])))
        self.refuse(("put move", 10, cells[2]))

    def test_far_too_long_an_edit_is_refused_at_once(self):
        condition = ("stuck",)
        for _ in range(3):
            condition = ("all", [condition] * 30000)
        self.refuse_quietly(("put end", 0, (condition, 0)))

    def refuse_quietly(self, edit):
        with self.assertRaises(BadEdit) as caught:
            print_edit(edit)
        self.assertEqual(caught.exception.what, "edit")
