"""[21]: a desk, its requests and its answers."""

import random
import unittest

from openorder.codemachine import code_run
from openorder.desk import answers
from openorder.errors import BadLine, BadText, NoFunction, OtherInputs, Unsound
from openorder.kinds import fault_of
from openorder.machine import run
from openorder.reader import function_in, program_text, read
from openorder.watcher import first_conflict
from openorder.workshop import Workshop
from tests.maker import Clasher, Maker

EXAMPLE = "int x = 1;\nfun main(int k) {\n  x = k + x++;\n}\n\nrun 4\nconflict 4\ncheck\nmend\nshow\nrun"
BASE = "int x = 1; int a[3]; ref p = &a[2]; ref q = &x; fun f(int n) { int t = n; t = t + t++; return t; } fun main(int k) { return f(k); }"
PLAIN = "fun main() { }"


def ask(requests, program=BASE):
    """Return the answers to requests, a text with lines."""
    return answers(program + "\n\n" + requests)


def bad_line(text):
    """Return the line of the BadLine that a text raises; None if it raises none."""
    try:
        answers(text)
    except BadLine as bad:
        return bad.at
    return None


class Examples(unittest.TestCase):
    def test_example(self):
        self.assertEqual(answers(EXAMPLE), ["ended 0 | - | x 5", "x: 1 write, 3 write", "x: 1 write, 3 write", "2",
                                            "int x = 1; / fun main(int k) { /   x = k +# x++; / }", "refused OtherInputs"])
        self.assertEqual(answers(text=EXAMPLE), answers(EXAMPLE))


class Answers(unittest.TestCase):
    def test_run(self):
        self.assertEqual(ask("run 4"), ["ended 8 | - | x 1, a 0 0 0, p &a[2], q &x"])
        self.assertEqual(ask("run", PLAIN), ["ended 0 | - | -"])
        self.assertEqual(ask("run\nrun / 0 1\nrun / 1", "int x = 0; fun main() { print(x++ + x); print(-7); }"),
                         ["ended 0 | 1 -7 | x 1", "ended 0 | 0 -7 | x 1", "ended 0 | 0 -7 | x 1"])
        self.assertEqual(ask("run -2147483648 7", "fun main(int k, int m) { print(k + m); }"), ["ended 0 | -2147483641 | -"])
        self.assertEqual(ask("run 0", "fun main(int k) { 1 / k + 1 ~ k; }"), ["stuck 2 nought, 5 nought | - | -"])
        self.assertEqual(ask("run", "int x = 0; fun main() { while (x < 1) { x = 0; } }"), ["going | - | x 0"])
        self.assertEqual(ask("run", "fun f() { return f(); } fun main() { f(); }"), ["stuck 0 deep | - | -"])
        self.assertEqual(ask("run 1 2\nrun"), ["refused OtherInputs"] * 2)

    def test_references(self):
        self.assertEqual(ask("run", "int x = 0; int a[2]; ref p = &x; ref q = &a[0]; fun main() { ref r = p; p = q; q = r; }"),
                         ["ended 0 | - | x 0, a 0 0, p &a[0], q &x"])

    def test_conflict(self):
        self.assertEqual(ask("conflict 4\nconflict 4 / 0 1"), ["1.t: 2 read, 3 write"] * 2)
        self.assertEqual(ask("conflict", "fun main() { print(1) + print(2); }"), ["output: 1 write, 3 write"])
        self.assertEqual(ask("conflict", "int a[3]; fun main() { a[1] = a[1]++; }"), ["a[1]: 2 write, 3 write"])
        self.assertEqual(ask("conflict", "int a[1]; ref p = &a[0]; fun main() { *p = (p = p, 2); }")[0].split(":")[0], "p")
        self.assertEqual(ask("conflict", "int x = 0; fun f(int n) { x = n; return n; } fun main() { print(f(1) + f(2)); }"), ["x: 4>1 write, 6>1 write"])
        self.assertEqual(ask("conflict\nconflict 1", PLAIN), ["-", "refused OtherInputs"])

    def told(self, text, inputs, choices=()):
        """Return the answer that a conflict of a run has."""
        program = read(text)
        found = first_conflict(program, inputs, choices)
        if found is None:
            return "-"
        place, one, other = found
        if place[0] == "output":
            front = "output"
        elif place[0] == "local":
            front = str(place[1]) + "." + place[2]
        else:
            is_array = ("array", place[1]) in [entry[:2] for entry in program[0]]
            front = place[1] + ("[" + str(place[2]) + "]" if is_array else "")
        return front + ": " + ", ".join(">".join(str(node) for node in way) + " " + word for way, word in (one, other))

    def test_check_and_mend(self):
        self.assertEqual(ask("check\nmend\ncheck\nmend\nundo\nundo\nundo"),
                         ["t: 2 step, 3 write", "4", "yes", "-", "done", "done", "nothing"])
        self.assertEqual(ask("check\nmend", "fun main() { print(1) + print(2); }"), ["output: 1 step, 3 step", "4"])
        self.assertEqual(ask("check\nmend", "int x = 0; int y = 0; fun main() { x = x++; y = y++ + y++; }"),
                         ["x: 0 write, 1 write", "1 4"])

    def test_code(self):
        self.assertEqual(ask("code 3 4\ncode 8 4"), ["ended 8 | - | x 1, a 0 0 0, p &a[2], q &x"] * 2)
        self.assertEqual(ask("code 4\ncode 4 0"), ["refused OtherInputs", "ended 0 | - | x 1, a 0 0 0, p &a[2], q &x"])
        self.assertEqual(ask("code 3 0\ncode 3 2", "fun main(int k) { print(1); print(6 / k); }"), ["stopped 4 nought | 1 | -", "ended 0 | 1 3 | -"])
        self.assertEqual(ask("code 5", "int x = 0; fun main() { while (x < 1) { x = 0; } }"), ["going | - | x 0"])

    def test_functions(self):
        self.assertEqual(ask("fun g(ref r) { return *r; }\nfun g(ref r)   { print(2) ; return *r+1; }\nfun main(int k) { return g(p); }\nrun 0\ntake f\ntake f"
                             "\nundo\nundo\nundo\nundo\nundo\nrun 3"),
                         ["3", "6", "2", "ended 1 | 2 | x 1, a 0 0 0, p &a[2], q &x", "7", "refused NoFunction", "done", "done", "done", "done",
                          "nothing", "ended 6 | - | x 1, a 0 0 0, p &a[2], q &x"])
        self.assertEqual(ask("fun f() { }\nfun h() { return nobody; }\nfun x() { }\ntake main\ntake nobody\ntake f\nfun main() { f(1); }\nrun"),
                         ["refused Unsound"] * 3 + ["refused NoFunction"] * 2 + ["refused Unsound", "2"] + ["ended 0 | - | x 1, a 0 0 0, p &a[2], q &x"])

    def test_show(self):
        self.assertEqual(ask("show\nfun f(int n) { }\nshow"), [program_text(read(BASE)).replace("\n", " / "), "0", program_text(read(
            BASE.replace("{ int t = n; t = t + t++; return t; }", "{ }"))).replace("\n", " / ")])
        self.assertEqual(ask("show", PLAIN), ["fun main() { / }"])

    def test_no_requests(self):
        for text in (PLAIN, PLAIN + "\n", "fun main() {\n}", "fun main() {\n}\n"):
            self.assertEqual(answers(text), [])


class Wrong(unittest.TestCase):
    def test_texts_of_no_program(self):
        for text, at in (("", 0), ("\n\nrun", 0), ("int x = 1;", 10), ("fun main() { return 1 +; }\n\nbad", 23), ("fun main() {\n \n}\n\n", None),
                         ("fun main() {\n\n}", 12), ("fun f() { } run", 12)):
            if at is None:
                self.assertEqual(bad_line(text), 4)
                continue
            with self.assertRaises(BadText) as caught:
                answers(text)
            self.assertEqual(caught.exception.at, at, text)

    def test_a_line_of_blanks_is_not_empty(self):
        self.assertEqual(answers("fun main() {\n  \n}\n\nrun"), ["ended 0 | - | -"])
        self.assertEqual(bad_line("fun main() { }\n\n \nrun"), 2)

    def test_faults(self):
        for text in ("fun main() { return y; }", "int x = 1; int x = 2; fun main() { }", "fun f() { }"):
            with self.assertRaises(Unsound) as caught:
                answers(text + "\n\nno request")
            self.assertEqual(caught.exception.fault, fault_of(read(text)))

    def test_the_order_of_errors(self):
        self.assertRaises(BadText, answers, "fun f() { x }\n\nbad")
        self.assertRaises(Unsound, answers, "fun f() { x; }\n\nbad")
        self.assertRaises(BadLine, answers, PLAIN + "\n\nrun 1\nbad")

    def test_lines_that_are_no_request(self):
        for line in ("", " ", "Run", "runs", " run", "run ", "run  1", "run 01", "run -0", "run 2147483648", "run -2147483649", "run +1", "run x", "run 1,2",
                     "run /", "run / ", "run 1 /", "run / -1", "run / 01", "run / 2147483648", "run 1 / 0 / 0", "run 1 // 0", "run 1/0", "run 1 / 0 ", "run 1.0",
                     "conflict /", "conflict 1  / 0", "conflict x", " conflict", "check ", "check 1", "check check", "mend 1", " mend", "code", "code ", "code 2", "code 9",
                     "code 03", "code -3", "code x", "code 3 -0", "code 3 01", "code 3 / 0", "code  3", "code 3  1", "code 13", "code 3 2147483648", "fun",
                     "fun f", "fun f() {", "fun f() { } fun g() { }", "fun f() { return 1 }", "fun f() { };", "function f() { }", "take", "take ", "take f g", "take 7",
                     "take F", "take int", "take print", "take toolongname", "take  f", "take f ", "undo 1", "undo ", "undo undo", "show 1", "show ", "shows", "7", "int z = 1;",
                     "- 1", "run - 1", "run --1", "put f", "replace"):
            for ahead in ("", "run 1\n", "check\nfun z() { }\n"):
                text = BASE + "\n\n" + ahead + line
                self.assertEqual(bad_line(text), 2 + ahead.count("\n"), text)
                self.assertEqual(bad_line(text + "\nrun 1\nworse"), 2 + ahead.count("\n"), text)

    def test_an_empty_line_behind_the_last_line_feed(self):
        self.assertEqual(bad_line(BASE + "\n\nrun 1\n"), 3)
        self.assertEqual(bad_line(BASE + "\n\n"), 2)
        self.assertEqual(bad_line("int x = 0;\n" + PLAIN + "\n\nrun\n\nrun"), 4)

    def test_lines_that_are_requests(self):
        for line in ("run 1 / 2147483647", "run 2147483647", "run -1 / 0", "conflict 3 / 1 2 3", "code 3 1", "code 8 -2147483648", "fun   z ( ) {  return   1 ;  }  ",
                     "fun z(){}", "take zzzzzzzz", "take z1"):
            self.assertIsNone(bad_line(BASE + "\n\n" + line), line)


class ByChance(unittest.TestCase):
    def result(self, program, result):
        """Return a RESULT as it is written."""
        end, output, values = result
        if end[0] == "stuck":
            front = "stuck " + ", ".join(str(node) + " " + word for node, word in end[1])
        else:
            front = " ".join(map(str, end))
        arrays = [entry[1] for entry in program[0] if entry[0] == "array"]
        told = []
        for entry, value in zip(program[0], values):
            if entry[0] == "ref":
                value = "&" + value[0] + ("[" + str(value[1]) + "]" if value[0] in arrays else "")
            elif entry[0] == "array":
                value = " ".join(map(str, value))
            told.append(entry[1] + " " + str(value))
        return " | ".join([front, " ".join(map(str, output)) or "-", ", ".join(told) or "-"])

    def answer(self, shop, line):
        """Return the answer to a request, made of what the functions return."""
        words = line.split(" ")
        program = shop.program_now()
        if words[0] in ("run", "conflict"):
            at = words.index("/") if "/" in words else len(words)
            inputs, choices = list(map(int, words[1:at])), list(map(int, words[at + 1:]))
            if words[0] == "run":
                return self.result(program, run(program, inputs, choices))
            return Answers().told(program_text(program), inputs, choices)
        if words[0] == "check":
            pair = shop.first_refused()
            return "yes" if pair is None else f"{pair[2] or 'output'}: {pair[0][0]} {pair[0][1]}, {pair[1][0]} {pair[1][1]}"
        if words[0] == "mend":
            return " ".join(map(str, shop.mend())) or "-"
        if words[0] == "code":
            return self.result(program, code_run(shop.code_for(int(words[1])), list(map(int, words[2:])))[0])
        if words[0] == "fun":
            function = function_in(line)
            return str(shop.replace(function) if function[0] in shop.functions() else shop.put(function))
        if words[0] == "take":
            return str(shop.take(words[1]))
        if words[0] == "undo":
            return "done" if shop.undo() else "nothing"
        return " / ".join(shop.text().split("\n"))

    def line(self, chance):
        inputs = " ".join([""] + [str(chance.choice((0, 1, 3, -2))) for _ in range(chance.choice((2, 2, 2, 2, 1, 3)))])
        choices = " / " + " ".join(str(chance.randrange(4)) for _ in range(chance.randint(1, 9))) if chance.random() < 0.5 else ""
        roll = chance.randrange(12)
        if roll < 4:
            return ("run" if roll < 2 else "conflict") + inputs + choices
        if roll == 4:
            return "code " + str(chance.randint(3, 8)) + inputs
        if roll < 8:
            maker = (Maker if chance.random() < 0.5 else Clasher)(chance.randrange(10 ** 6))
            function = maker.program(functions=chance.randint(1, 2), statements=2, level=2)[1][0]
            name = chance.choice(("f0", "f1", "new", function[0]))
            return " ".join(program_text(((), ((name,) + function[1:],))).split("\n"))
        return chance.choice(("check", "mend", "take f0", "take f1", "take new", "undo", "undo", "show"))

    def test_against_the_functions(self):
        refused = {}
        for seed in range(150):
            chance = random.Random(seed)
            program = (Maker if seed % 2 else Clasher)(seed).program(functions=chance.randint(1, 3), statements=3, level=2)
            shop = Workshop(program)
            lines, expected = [], []
            for _ in range(12):
                lines.append(self.line(chance))
                try:
                    expected.append(self.answer(shop, lines[-1]))
                except (OtherInputs, NoFunction, Unsound) as error:
                    name = type(error).__name__
                    refused[name] = refused.get(name, 0) + 1
                    expected.append("refused " + name)
            self.assertEqual(answers(program_text(program) + "\n\n" + "\n".join(lines)), expected)
        self.assertEqual(sorted(refused), ["NoFunction", "OtherInputs", "Unsound"])
        self.assertGreater(min(refused.values()), 20)


if __name__ == "__main__":
    unittest.main()
