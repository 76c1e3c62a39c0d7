"""[4] and [5]: texts read, and where they fail."""

import unittest

from openorder.errors import BadText
from openorder.reader import function_in, read
from tests.programs import expression_of

X, Y, Z = ("var", "x"), ("var", "y"), ("var", "z")


def failure(text, reader=read):
    """Return the index that BadText tells, None if the text is read."""
    try:
        reader(text)
    except BadText as found:
        return found.at
    return None


class Grammar(unittest.TestCase):
    def test_examples(self):
        self.assertEqual(
            function_in("fun f(ref r) { *r =# -4; }"),
            ("f", (("ref", "r"),),
             (("do", ("set", ("at", ("var", "r"), 0), ("neg", ("num", 4), 0), 1)),)))
        with self.assertRaises(BadText) as caught:
            read("fun main() { return 1 +; }")
        self.assertEqual(caught.exception.at, 23)

    def test_globals(self):
        text = "int x=7;int y = - 3 ; int a[20]; ref p=&x; ref q = & a [ 2 ]; ref r=&x[0];fun main(){}"
        self.assertEqual(read(text)[0], (
            ("int", "x", 7), ("int", "y", -3), ("array", "a", 20), ("ref", "p", "x", 0),
            ("ref", "q", "a", 2), ("ref", "r", "x", 0)))

    def test_functions_and_params(self):
        text = "fun f(){}fun g(int a,ref b , int c1){}fun main(int k){}"
        self.assertEqual(read(text), ((), (
            ("f", (), ()), ("g", (("int", "a"), ("ref", "b"), ("int", "c1")), ()),
            ("main", (("int", "k"),), ()))))

    def test_statements(self):
        text = ("fun f() { int x = 1; ref r = &x; x; return x; while (x) { y; } "
                "if (x) { y; } if (x) { y; } else { z; } if (x) {} else {} }")
        self.assertEqual(function_in(text)[2], (
            ("let", "int", "x", ("num", 1)), ("let", "ref", "r", ("ref", "x")), ("do", X),
            ("return", X), ("while", X, (("do", Y),)), ("if", X, (("do", Y),), ()),
            ("if", X, (("do", Y),), (("do", Z),)), ("if", X, (), ())))

    def test_commas_stand_in_every_e(self):
        body = function_in("fun f() { x, y; return x, y; while (x, y) {} if (x, y) {} a[x, y]; &a[x, y];"
                           " (x, y); x ? y, z : z; }")[2]
        pair = ("comma", X, Y)
        self.assertEqual(body, (
            ("do", pair), ("return", pair), ("while", pair, ()), ("if", pair, (), ()),
            ("do", ("item", "a", pair, 0)), ("do", ("refitem", "a", pair, 0)), ("do", pair),
            ("do", ("cond", X, ("comma", Y, Z), Z))))

    def test_expressions(self):
        told = {
            "7": ("num", 7), "x": X, "&x": ("ref", "x"), "a[x]": ("item", "a", X, 0),
            "&a[x]": ("refitem", "a", X, 0), "*x": ("at", X, 0), "-x": ("neg", X, 0),
            "!x": ("not", X, 0), "print(x)": ("print", X, 0), "x && y": ("and", X, Y),
            "x || y": ("or", X, Y), "x, y": ("comma", X, Y), "x ? y : z": ("cond", X, Y, Z),
            "x = y": ("set", X, Y, 0), "a[x] = y": ("set", ("item", "a", X, 0), Y, 0),
            "*x = y": ("set", ("at", X, 0), Y, 0), "x += y": ("add", X, Y, 0), "x++": ("inc", X, 0),
            "a[x]++": ("inc", ("item", "a", X, 0), 0), "(*x)++": ("inc", ("at", X, 0), 0),
            "f()": ("call", "f", (), 0), "f(x)": ("call", "f", (X,), 0),
            "f(x, y)": ("call", "f", (X, Y), 0), "f((x, y))": ("call", "f", (("comma", X, Y),), 0),
            "*x++": ("at", ("inc", X, 0), 0), "*x++ = y": ("set", ("at", ("inc", X, 0), 0), Y, 0),
            "(**x)++": ("inc", ("at", ("at", X, 0), 0), 0),
            "*&x = y": ("set", ("at", ("ref", "x"), 0), Y, 0),
            "--x": ("neg", ("neg", X, 0), 0), "x+++y": ("op", "+", ("inc", X, 0), Y, 0),
            "((x))": X, "((x) + (y))": ("op", "+", X, Y, 0),
        }
        for sign in "+-*/~<":
            told[f"x{sign}y"] = ("op", sign, X, Y, 0)
        told["x==y"] = ("op", "==", X, Y, 0)
        for text, expression in told.items():
            with self.subTest(text=text):
                self.assertEqual(expression_of(text), expression)

    def test_marks(self):
        told = {
            "a[#x]": ("item", "a", X, 1), "&a[#x]": ("refitem", "a", X, 1), "*#x": ("at", X, 1),
            "-#x": ("neg", X, 1), "!#x": ("not", X, 1), "print#(x)": ("print", X, 1),
            "x =# y": ("set", X, Y, 1), "x +=# y": ("add", X, Y, 1),
            "a[x]++#": ("inc", ("item", "a", X, 0), 1), "(*x)++#": ("inc", ("at", X, 0), 1),
            "f#(x)": ("call", "f", (X,), 1), "f # ( x , y )": ("call", "f", (X, Y), 1),
            "(a[#x])": ("item", "a", X, 1), "(*a[#x])++": ("inc", ("at", ("item", "a", X, 1), 0), 0),
            "*-#x = y": ("set", ("at", ("neg", X, 1), 0), Y, 0),
        }
        for sign in ("+", "-", "*", "/", "~", "<", "=="):
            told[f"x {sign}# y"] = ("op", sign, X, Y, 1)
        for text, expression in told.items():
            with self.subTest(text=text):
                self.assertEqual(expression_of(text), expression)

    def test_grouping(self):
        same = {
            "x - y - z": "(x - y) - z", "x / y * z": "(x / y) * z", "x < y < z": "(x < y) < z",
            "x == y == z": "(x == y) == z", "x && y && z": "(x && y) && z",
            "x || y || z": "(x || y) || z", "x, y, z": "(x, y), z", "x = y = z": "x = (y = z)",
            "x += y = z": "x += (y = z)", "x ? y : z ? x : y": "x ? y : (z ? x : y)",
            "x ? y ? z : x : y": "x ? (y ? z : x) : y", "x ? y = z : x": "x ? (y = z) : x",
            "x = y ? z : x": "x = (y ? z : x)", "x + y * z": "x + (y * z)",
            "x < y + z": "x < (y + z)", "x == y < z": "x == (y < z)", "x && y == z": "x && (y == z)",
            "x || y && z": "x || (y && z)", "x || y ? z : x": "(x || y) ? z : x",
            "-x * y": "(-x) * y", "!x == y": "(!x) == y", "x = y, z": "(x = y), z",
            "-x++": "-(x++)", "x - -y": "x - (-y)", "*x * *y": "(*x) * (*y)",
            "x ? y, z : x": "x ? (y, z) : x", "-a[x]": "-(a[x])",
        }
        for text, other in same.items():
            with self.subTest(text=text):
                self.assertEqual(expression_of(text), expression_of(other))

    def test_blanks_only_part_words(self):
        tight = "int x=-1;int a[2];fun f(int n){return n+ +x;}"
        self.assertEqual(failure(tight), tight.index("+x"))
        one = read("int x=1;ref p=&x;fun main(int k){if(k<2){*p=#a[#k]+f#(k);}else{return(*p)++;}}")
        other = read("\n int\nx  =\n1 ;ref p = & x ; fun main ( int k ) { if ( k < 2 ) {\n\n * p =\n# a "
                     "[ # k ] + f # ( k ) ; } else { return ( * p ) ++ ; } }\n ")
        self.assertEqual(one, other)
        self.assertEqual(failure("fun main() { x + + y; }"), 17)
        self.assertEqual(failure("fun main() { return1; }"), None)

    def test_nests_deep(self):
        for front, back in (("(", ")"), ("-", ""), ("a[", "]"), ("f(", ")"), ("x = ", ""), ("x ? ", ": y")):
            text = "fun main() { " + front * 140 + "x" + back * 140 + "; }"
            self.assertEqual(failure(text), None)
            cut = "fun main() { " + front * 140
            self.assertEqual(failure(cut), len(cut))

    def test_bodies_nest(self):
        text = "fun main() { " + "if (x) { " * 9 + "x; " + "} " * 10
        self.assertEqual(failure(text), None)
        self.assertEqual(failure(text[:-2]), len(text) - 2)


class Failures(unittest.TestCase):
    """Each ^ stands in front of the word at which the text fails, and is not in the text."""

    def check(self, marked, head, tail):
        for words in marked:
            with self.subTest(words=words):
                place = words.index("^")
                text = head + words[:place] + words[place + 1:] + tail
                self.assertEqual(failure(text), len(head) + place)

    def check_statements(self, marked):
        self.check(marked, "fun main() { ", "; }")

    def check_expressions(self, marked):
        self.check(marked, "fun main() { ", " ; }")
        self.check(marked, "int x = 1; fun main() { x = 2; y = (", ")); }")

    def test_names(self):
        self.assertIsNone(failure("fun abcdefgh() { a2345678; }"))
        self.check_expressions(("^abcdefghi", "x + ^abcdefghi", "^a23456789", "x(^abcdefghi)",
                                "&^abcdefghi", "^returning"))
        self.check(("fun ^abcdefghi() { }", "fun f(int ^abcdefghi) { }", "int ^abcdefghi = 1;"), "", "")
        self.assertIsNone(failure("fun main() { returnx; int1; print2 + fun3(while4); }"))

    def test_signs_that_begin_no_word(self):
        self.check_expressions(("x ^| y", "x^|", "x ^aB", "x^B", "^A", "x + ^_", "^$", "x ^\ty", "^\u00e9",
                                "x ^. y", "x ^\u00b2", "^'", "x ^> y", "x ^^ y"))
        self.check_expressions(("x ^!= y", "x <^= y", "x -^= y", "x ^x$", "x + ^= y", "x ^& y", "x &&& y ^& z"))

    def test_digits(self):
        self.assertEqual(expression_of("2147483647"), ("num", 2147483647))
        self.assertEqual(expression_of("0"), ("num", 0))
        self.check_expressions(("^007", "x + ^00", "^01", "^2147483648", "-^2147483648", "^2147483649",
                                "^9999999999", "^12345678901", "a[^2147483648]", "^3000000000",
                                "x = ^2147483648", "1^x", "0^x", "^01x", "- ^00"))
        self.assertEqual(failure("fun main() { " + "9" * 5000 + "; }"), 13)

    def test_numbers_of_globals(self):
        for text, value in (("2147483647", 2147483647), ("-2147483647", -2147483647), ("- 5", -5),
                            ("-2147483648", -2147483648), ("0", 0), ("-0", 0)):
            self.assertEqual(read(f"int x = {text}; fun main() {{ }}")[0], (("int", "x", value),))
        self.check(("int x = ^2147483648", "int x = -^2147483649", "int x = -^007", "int x = -^-1",
                    "int x = ^y", "int x = ^(1)", "int a[^2147483648]", "int a[^-1]", "int a[^]",
                    "int a[^00]", "ref p = &a[^2147483648]", "ref p = &a[^-1]"), "", "; fun main() { }")

    def test_globals(self):
        self.check(("int x^;", "int ^int = 1;", "int x = 1 ^+ 1;", "int x[1] ^= 1;", "ref p^;",
                    "ref p = ^x;", "ref p = &^1;", "ref p = &x^++;", "ref p^[1];", "^x = 1;", "^;",
                    "fun f() { } ^int x = 1;", "int x =^# 1;", "ref p = &a[^#1];", "int x = 1^, y = 2;",
                    "int x ^+= 1;", "ref p = &x ^+ 1;", "^return 1;"), "", " fun main() { }")
        self.assertEqual(failure("int x = 1 fun main() { }"), 10)

    def test_functions(self):
        self.check(("^f() { }", "fun ^() { }", "fun ^fun() { }", "fun f ^{ }", "fun f(^x) { }",
                    "fun f(int^) { }", "fun f(int x ^int y) { }", "fun f(int x,^) { }", "fun f(^,) { }",
                    "fun f()^;", "fun f() { }^;", "fun f() { }^}", "fun f^#() { }", "fun ^print() { }",
                    "fun f(int x^[1]) { }", "fun f(int x ^= 1) { }"), "", "")

    def test_only_the_end_is_missing(self):
        whole = ("int x = - 2; ref p = &a[1]; fun f(int n, ref r) { if (n) { x =# 1; } else { "
                 "f#(n ? 1 : *r); } int y = print#(x++); }")
        words = whole.split(" ")
        for many in range(len(words)):
            text = " ".join(words[:many])
            with self.subTest(text=text):
                self.assertEqual(failure(text), len(text))
                self.assertEqual(failure(text + " \n "), len(text) + 3)
        self.assertIsNone(failure(whole))
        self.assertEqual(failure("", function_in), 0)
        self.assertEqual(failure("int x = 1;"), 10)

    def test_words_behind_the_end(self):
        for text in ("fun f() { } x", "fun f() { } fun g() { }", "fun f() { } ;", "fun f() { } $"):
            self.assertEqual(failure(text, function_in), 12)
        self.assertEqual(failure("int x = 1; fun f() { }", function_in), 0)
        self.assertIsNone(failure("fun f() { } \n", function_in))
        self.assertEqual(failure("fun f() { } ;"), 12)

    def test_statements(self):
        self.check_statements(("^", "int x^", "int x ^+= 1", "int x =^# 1", "int ^if = 1", "int x = 1^, y",
                               "return^", "return ^return x", "return^# x", "if ^x", "if (^) { }",
                               "if (x) ^x", "if (x) { } else ^if", "^else { }", "while (x) { } ^else { }",
                               "while (x)^", "^fun f() { }", "^{ }", "if (x^; y) { }", "x ^y",
                               "if (x) { } else { } ^else { }", "ref r = &^1",
                               "int a^[1]", "int ^= 1", "ref^", "^;"))
        self.assertEqual(failure("fun main() { x }"), 15)
        self.assertIsNone(failure("fun main() { x; }"))

    def test_operators(self):
        self.check_expressions(("x ^]", "(x^]", "a[x^)", "f(x,^)", "f(^, x)", "x ?^: y", "x ^: y",
                                "x ? (y ^: z) : x", "print(x^, y)", "print ^x", "print(^)", "&^1", "&^(x)",
                                "&^*x", "&x^(1)", "x(1)^(2)", "1^(x)", "x ^!y", "a[x]^[y]", "(x)^[y]",
                                "f(x)^[y]", "a[^]", "^= x", "^+ x", "x ? y : z ^: x", "^&& x", "(x ? y^)",
                                "a[x ? y^]", "f(x ? y^)", "(^)", "(x, ^)", "x ? y, ^: z"))

    def test_what_cannot_be_marked(self):
        self.check_expressions(("x &&^# y", "x ||^# y", "(x,^# y)", "x ?^# y : z", "x ? y :^# z", "&^#x",
                                "&x^#", "x++^#", "f#(^)", "(^#x)", "7^#", "^#x", "a[x]^#", "f(x)^#",
                                "x =#^# y", "*#^#x", "print(x)^#", "f(^#x)", "f(x,^# y)", "x# ^+ y",
                                "(*x)^# + 1", "print(^#x)", "x++ ^# + 1", "x#^[1]", "f()^#"))

    def test_what_cannot_have_an_assignment_behind_it(self):
        for place in ("7", "&x", "&a[x]", "-x", "!x", "(x)", "(*x)", "((*x))", "x + y", "x++", "a[x]++",
                      "f(x)", "f()", "print(x)", "x && y", "x ? y : z", "*#x", "a[#x]", "(a[x])",
                      "x + *y", "-*x", "x < a[y]", "*x + y", "*a[x] * y", "(x = y)", "x || y"):
            self.check_expressions((place + " ^= z", place + " ^+= z"))
        for place in ("x", "a[x]", "*x", "**x", "*-x", "*(x)", "*f(x)", "*x++", "*a[#x]", "*&x", "y, x",
                      "z = x", "x ? y = z : z, y", "*-#x"):
            with self.subTest(place=place):
                self.assertIsNone(failure(f"fun main() {{ {place} = z; }}"))
                self.assertIsNone(failure(f"fun main() {{ {place} +=# z; }}"))

    def test_what_cannot_have_an_increment_behind_it(self):
        for place in ("7", "&x", "&a[x]", "(x)", "((*x))", "(x + y)", "x++", "a[x]++", "(*x)++", "f(x)",
                      "f()", "print(x)", "(*#x)", "a[#x]", "(a[x])", "(x, *y)", "(-x)", "(x = y)",
                      "(*x + y)", "(-*x)", "(&x)", "(x ? *x : *y)", "(x = *y)", "x + 1", "(*#*x)"):
            self.check_expressions((place + " ^++",))
        for place in ("x", "a[x]", "(*x)", "*x", "-x", "!a[x]", "x + y", "(*(x + y))", "(*-x)", "(*a[#x])",
                      "a[x]++ + x"):
            with self.subTest(place=place):
                self.assertIsNone(failure(f"fun main() {{ {place}++; }}"))


if __name__ == "__main__":
    unittest.main()
