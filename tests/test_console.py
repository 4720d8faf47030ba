"""The console, and the puzzles that are shown: [33], and shown.py."""
import random
import re
import unittest

from helper import STRANGE, all_in, error_of, fillings_plainly, fits_plainly, make_plainly, whole_plainly

from onefilling import errors
from onefilling.console import Console, said
from onefilling.games import game_by_hints, grades, hint, reasoned
from onefilling.hardness import hardness
from onefilling.kinds import begin, is_kind, is_puzzle
from onefilling.makers import idle, is_tight
from onefilling.shown import shown, shown_names

NAMES = ("hills", "paths", "words")
NONE = ("no puzzle",)
NO_SUCH = ("no such command",)
MISFIT = ("does not fit",)
OTHERS = ("sheet", "write 0 1", "strike 0 1", "undo", "hint", "play", "judge", "hardness", "idle")
# Texts that are no commands, with a puzzle or without.
WRONG = (
    "", " ", "show", "show ", " show hills", "show hills ", "show  hills", "Show hills", "SHOW hills", "show Hills", "show hill",
    "show hillss", "show hills paths", "show\thills", "show hills\n", "show 1", "hills", "sheet ", " sheet", "sheet 1", "Sheet",
    "sheets", "sheet\n", "write", "write 0", "write 0 1 ", " write 0 1", "write  0 1", "write 0  1", "write 0 1 1", "write 00 1",
    "write 0 01", "write 01 1", "write 1000 1", "write 0 1000", "write -1 1", "write 0 -1", "write +1 1", "write 0 1.0", "write a 1",
    "write 0 a", "write 0x1 1", "write 1_0 1", "write \u0661 1", "write 0 \u00b2", "write 0,1", "Write 0 1", "WRITE 0 1", "write0 1",
    "write 0 1\n", "write\n0 1", "strike", "strike 0", "strike 0 1 2", "strike 0000 1", "strike 0 001", "strike  0 1", "Strike 0 1",
    "strike 0 \uff11", "undo ", " undo", "undo 1", "Undo", "undo undo", "hint ", "hint 1", "Hint", "hints", "play 1", "play ", "Play",
    "judge ", "judge 0", "Judge", "hardness 1", "hardness ", "Hardness", "hard", "idle ", "idle 0", "Idle", "help", "quit", "exit", "?",
    "no puzzle", "x" * 20000, "sheet" * 4000, "write " + "1" * 19000 + " 1", "\u00e4", "show h\u0456lls", "\0", "write 0\u00a01",
)


class Plain:
    """The console, by the words of [33]: it knows the moves, and asks for all else anew."""

    def __init__(self):
        self.puzzle = None
        self.moves = ()

    def row(self):
        row = [begin(self.puzzle)]
        for move in self.moves:
            row = make_plainly(row, move)
        return row

    def answer(self, command):
        told = re.fullmatch("show (hills|paths|words)", command)
        if told:
            kind, filling, givens = shown(told[1])
            self.puzzle, self.moves = (kind, givens), ()
            return (f"{told[1]} {kind[0]} by {kind[1]}, {len(givens)} givens",)
        number = "(0|[1-9][0-9]?[0-9]?)"
        move = re.fullmatch(f"(write|strike) {number} {number}", command)
        if not move and command not in OTHERS:
            return NO_SUCH
        if self.puzzle is None:
            return NONE
        if move or command == "undo":
            return self.moved((move[1], int(move[2]), int(move[3])) if move else ("undo",))
        return getattr(self, command)()

    def moved(self, move):
        kind = self.puzzle[0]
        if move != ("undo",) and not (move[1] < kind[0] * kind[1] and 1 <= move[2] <= kind[2]):
            return MISFIT
        if not fits_plainly(self.row(), move) or len(self.moves) == 200:
            return MISFIT
        self.moves += (move,)
        grade = grades(self.puzzle, self.moves)[-1]
        return ("grade none" if grade is None else f"grade {grade}",)

    def sheet(self):
        kind, sheet = self.puzzle[0], self.row()[-1]
        lots = ["".join(map(str, lot)) or "-" for lot in sheet]
        return tuple(" ".join(lots[at * kind[1]:(at + 1) * kind[1]]) for at in range(kind[0]))

    def hint(self):
        move = hint(self.puzzle, self.moves)
        if move is None:
            return ("no hint",)
        # Its grade is told by a game with it, if that is not too long.
        grade = grades(self.puzzle, self.moves[-199:] + (move,))[-1] if len(self.moves) < 200 else None
        return (f"strike {move[1]} {move[2]} grade {grade}",)

    def play(self):
        played = 0
        while len(self.moves) < 200 and hint(self.puzzle, self.moves) is not None:
            self.moves += (hint(self.puzzle, self.moves),)
            played += 1
        new = grades(self.puzzle, self.moves)[len(self.moves) - played:]
        return (f"{played} moves, grade {max(new, default=0)}",)

    def judge(self):
        settled = all(len(lot) == 1 for lot in self.row()[-1])
        most = reasoned(self.puzzle, self.moves)
        return ("settled" if settled else "open", "not reasoned" if most is None else f"reasoned up to {most}")

    def hardness(self):
        return (f"hardness {hardness(self.puzzle)}",)

    def idle(self):
        places = idle(self.puzzle)
        return ("idle " + " ".join(map(str, places)),) if places else ("tight",)


class Shown(unittest.TestCase):
    def test_each_one(self):
        self.assertEqual(shown_names(), NAMES)
        for name in NAMES:
            kind, filling, givens = shown(name)
            self.assertTrue(is_kind(kind) and is_puzzle((kind, givens)))
            self.assertLessEqual(len(all_in(whole_plainly(kind))), 1000)
            self.assertLessEqual(len(kind[3]), 6)
            self.assertEqual(fillings_plainly((kind, givens)), [filling])
            self.assertTrue(all(len(fillings_plainly((kind, tuple(one for one in givens if one != given)))) > 1 for given in givens))
            self.assertTrue(is_tight((kind, givens)))
            self.assertGreaterEqual(hardness((kind, givens)), 2)
            self.assertEqual(shown(name=name), shown(name))

    def test_other_names(self):
        for name in STRANGE + ("Hills", "hill", "hills ", " words", "path", ["hills"], ("hills",), b"hills", "", NAMES):
            wrong = error_of(shown, name)
            self.assertIs(wrong.kind, errors.InvalidName)
            self.assertIs(wrong.told["given"], name)


class Commands(unittest.TestCase):
    def test_without_a_puzzle(self):
        for command in OTHERS + ("write 999 999", "strike 15 6", "write 0 0"):
            self.assertEqual(said((command,)), (NONE,), command)
        self.assertEqual(said(()), ())
        self.assertEqual(said(OTHERS), (NONE,) * len(OTHERS))

    def test_no_such_command(self):
        for command in WRONG:
            self.assertEqual(said((command, "show hills", command, "sheet")),
                             (NO_SUCH, said(("show hills",))[0], NO_SUCH, said(("show hills", "sheet"))[1]), command)

    def test_show(self):
        for name in NAMES:
            kind, filling, givens = shown(name)
            told = said((f"show {name}", "sheet", "judge", "hardness", "idle"))
            self.assertEqual(told[0], (f"{name} {kind[0]} by {kind[1]}, {len(givens)} givens",))
            self.assertEqual(len(told[1]), kind[0])
            self.assertEqual([len(row.split(" ")) for row in told[1]], [kind[1]] * kind[0])
            self.assertEqual(told[2], ("open", "reasoned up to 0"))
            self.assertEqual(told[3], (f"hardness {hardness((kind, givens))}",))
            self.assertEqual(told[4], ("tight",))

    def test_a_shown_puzzle_has_no_moves(self):
        told = said(("show hills", "play", "judge", "show hills", "judge", "undo", "show words", "undo", "sheet"))
        self.assertEqual(told[2][0], "settled")
        self.assertEqual(told[4:6], (("open", "reasoned up to 0"), MISFIT))
        self.assertEqual(told[7], MISFIT)
        self.assertEqual(told[8], said(("show words", "sheet"))[1])

    def test_moves(self):
        told = said(("show paths", "write 2 1", "strike 2 1", "write 0 3", "write 0 0", "write 9 1", "write 999 1", "write 0 999",
                     "undo", "write 0 2", "write 0 2", "strike 0 1", "sheet", "undo", "sheet", "undo"))
        self.assertEqual(told[1:9], (MISFIT,) * 8)
        self.assertRegex(told[9][0], "^grade ([0-9]|none)$")
        self.assertEqual(told[10:12], (MISFIT,) * 2)
        self.assertEqual(told[12][0][:2], "2 ")
        self.assertEqual(told[13], ("grade 0",))
        self.assertEqual(told[14][0][:3], "12 ")
        self.assertEqual(told[15], MISFIT)

    def test_play_and_hints(self):
        for name in NAMES:
            kind, filling, givens = shown(name)
            puzzle = (kind, givens)
            moves = game_by_hints(puzzle)
            told = said((f"show {name}", "play", "sheet", "judge", "hint", "play", "undo", "hint", "play", "judge"))
            self.assertEqual(told[1], (f"{len(moves)} moves, grade {reasoned(puzzle, moves)}",))
            self.assertEqual(" ".join(told[2]).split(" "), [str(worth) for worth in filling])
            self.assertEqual(told[3], ("settled", f"reasoned up to {hardness(puzzle)}"))
            self.assertEqual(told[4:7], (("no hint",), ("0 moves, grade 0",), ("grade 0",)))
            word, place, worth = moves[-1]
            grade = grades(puzzle, moves)[-1]
            self.assertEqual(told[7], (f"strike {place} {worth} grade {grade}",))
            self.assertEqual(told[8], (f"1 moves, grade {grade}",))
            self.assertEqual(told[9], told[3])

    def test_hints_one_by_one(self):
        for name in NAMES:
            kind, filling, givens = shown(name)
            commands = [f"show {name}"]
            for (word, place, worth), grade in zip(game_by_hints((kind, givens)), grades((kind, givens), game_by_hints((kind, givens)))):
                self.assertEqual(said(tuple(commands) + ("hint",))[-1], (f"strike {place} {worth} grade {grade}",))
                commands.append(f"strike {place} {worth}")
                self.assertEqual(said(tuple(commands))[-1], (f"grade {grade}",))

    def test_what_is_not_reasoned_stays_so(self):
        for name in NAMES:
            kind, filling, givens = shown(name)
            place = [place for place in range(len(filling)) if place not in dict(givens)][0]
            told = said((f"show {name}", f"strike {place} {filling[place]}", "judge", "undo", "judge", "play", "judge"))
            self.assertEqual((told[1], told[2]), (("grade none",), ("open", "not reasoned")))
            self.assertEqual((told[3], told[4], told[6]), (("grade 0",), ("open", "not reasoned"), ("settled", "not reasoned")))

    def test_void_lots(self):
        # Where a lot has become void by strikes of others it shows so: a worth alone is not struck.
        for name in NAMES:
            kind, filling, givens = shown(name)
            place = [place for place in range(len(filling)) if place not in dict(givens)][0]
            others = [worth for worth in range(1, kind[2] + 1) if worth != filling[place]]
            told = said((f"show {name}", f"write {place} {others[0]}", f"strike {place} {others[0]}", "play", "judge", "sheet"))
            self.assertEqual((told[1], told[2]), (("grade none",), MISFIT))
            self.assertNotIn("-", " ".join(told[5]))
            self.assertEqual(told[4][1], "not reasoned")

    def test_the_201st_move_does_not_fit(self):
        # By 100 commands one does not come to so many moves, so they are told to a console one by one.
        for name in NAMES:
            place = [place for place in range(6) if place not in dict(shown(name)[2])][0]
            strike = f"strike {place} 1"
            for ahead in (196, 199, 200):
                console, plain = Console(), Plain()
                commands = [f"show {name}"] + [strike, "undo"] * 100
                for command in commands[:ahead + 1]:
                    self.assertEqual(console.answer(command), plain.answer(command))
                self.assertEqual(len(plain.moves), ahead)
                for command in ("hint", "play", "judge", "sheet", "play", strike, "undo", "hint", "write 5 1", "judge", "idle"):
                    if command != "hint" or len(plain.moves) < 200:
                        self.assertEqual(console.answer(command), plain.answer(command), (ahead, command))
                self.assertEqual(len(plain.moves), 200)
                self.assertEqual([console.answer(command) for command in ("undo", strike, "play")],
                                 [MISFIT, MISFIT, ("0 moves, grade 0",)])
                self.assertEqual(console.answer("show words")[0][:5], "words")
                self.assertEqual(console.answer("play"), said(("show words", "play"))[1])

    def test_rows_of_commands_against_the_words(self):
        dice = random.Random(901)
        told = {}
        for _ in range(60):
            plain = Plain()
            commands, right = [], []
            for _ in range(dice.randint(1, 40)):
                command = some_command(dice)
                commands.append(command)
                right.append(plain.answer(command))
            self.assertEqual(said(tuple(commands)), tuple(right), commands)
            for answer in right:
                for text in answer:
                    word = re.sub("[0-9]+", "N", text)
                    told[word] = told.get(word, 0) + 1
        for text in ("does not fit", "grade N", "grade none", "no puzzle", "no such command", "strike N N grade N", "no hint",
                     "N moves, grade N", "settled", "open", "reasoned up to N", "not reasoned", "hardness N", "tight"):
            self.assertGreater(told.get(text, 0), 3, (text, told))


def some_command(dice):
    move = f"{dice.choice(('write', 'strike'))} {dice.randint(0, 9)} {dice.randint(0, 4)}"
    many = [move] * 8 + ["undo", "undo", "hint", "hint", "sheet", "judge", "play", "hardness", "idle"]
    return dice.choice(many + [f"show {dice.choice(NAMES)}", dice.choice(WRONG)])


class Arguments(unittest.TestCase):
    def test_no_tuple_no_text_and_the_101st(self):
        for commands, index in ((None, None), ([], None), ("sheet", None), ({}, None), (0, None), (["sheet"], None), ((None,), 0),
                                (("sheet", 1), 1), (("sheet", b"sheet"), 1), ((("sheet",),), 0), (("", "", True, None), 2),
                                (("sheet",) * 101, 100), (("sheet",) * 100 + (None,), 100), (("sheet",) * 99 + (None, 0), 99),
                                (("sheet",) * 200, 100)):
            wrong = error_of(said, commands)
            self.assertEqual((wrong.kind, wrong.told), (errors.InvalidCommands, {"index": index}))
        self.assertEqual(said(("sheet",) * 100), (NONE,) * 100)
        self.assertEqual(said(commands=("sheet",)), (NONE,))
        for value in STRANGE:
            if value not in ((), ("unlike",)):
                self.assertEqual(error_of(said, value).kind, errors.InvalidCommands)
            if not isinstance(value, str):
                self.assertEqual(error_of(said, ("sheet", value)).told, {"index": 1})

    def test_answers_are_tuples_of_texts(self):
        for answer in said(("show words", "sheet", "hint", "write 0 1", "judge", "play", "idle", "hardness", "?", "undo")):
            self.assertIs(type(answer), tuple)
            self.assertTrue(answer and all(type(text) is str for text in answer))


if __name__ == "__main__":
    unittest.main()
