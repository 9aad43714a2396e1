"""Promise 5: matches."""

import unittest

from tests.helper import MATCHES, RULES, ask, ask_last, call

LONGEST = "/".join(["a" * 12, "b" * 12, "c" * 12, "d"])

NO_PATH = (
    "", "/", "a/", "/a", "a//b", "a/b/c/d/e", "a" * 13, "a/" + "b" * 13, LONGEST + "d", "A", "a b", "a\n", "a'", "*",
    "a/*", "**", "a/**", "a*", [0], [255], "a" * 60,
)
NO_PATTERN = (
    "", "/", "a/", "/a", "a//b", "a/b/c/d/e", "a/b/c/d/**", "a" * 13, LONGEST + "d", "A", "a b", "'a'", "**/a", "a/**/b",
    "***", "a*", "*a", "a/***", "**/**", [0], [255], "*" * 60,
)


class TestMatches(unittest.TestCase):
    def check(self, expected, *rows):
        for pattern, path in rows:
            with self.subTest(pattern=pattern, path=path):
                self.assertEqual(ask(MATCHES, pattern, path), [expected])

    def test_file_names(self):
        self.check(1, ("a", "a"), ("a/b", "a/b"), ("a.b-c_1", "a.b-c_1"), ("..", ".."), ("1", "1"), (LONGEST, LONGEST))
        self.check(0, ("a", "b"), ("a", "aa"), ("aa", "a"), ("a", "a/a"), ("a/a", "a"), ("a/b", "b/a"), ("a.b", "a-b"))

    def test_one_star(self):
        self.check(1, ("*", "a"), ("*/b", "a/b"), ("a/*", "a/b"), ("*/*/*/*", "a/b/c/d"), ("a/*/c", "a/x.y/c"))
        self.check(0, ("*", "a/b"), ("*/*", "a"), ("*/b", "a/c"), ("a/*", "b/a"), ("a/*", "a"), ("a/*", "a/b/c"))

    def test_two_stars(self):
        self.check(1, ("**", "a"), ("**", "a/b/c/d"), ("a/**", "a/b"), ("a/**", "a/b/c/d"), ("*/**", "a/b"))
        self.check(1, ("a/b/c/**", "a/b/c/d"), ("a/*/**", "a/b/c/d"))
        self.check(0, ("a/**", "a"), ("a/**", "b/a"), ("a/b/**", "a/b"), ("*/**", "a"), ("a/b/c/**", "a/b/c"))
        self.check(0, ("a/b/**", "a/c/b"))

    def test_no_pattern(self):
        for pattern in NO_PATTERN:
            self.check(-14, (pattern, "a"))

    def test_no_path(self):
        for path in NO_PATH:
            self.check(-11, ("a", path), ("**", path))

    def test_neither(self):
        for pattern in NO_PATTERN:
            for path in NO_PATH:
                self.check(-14, (pattern, path))

    def test_words_of_the_language_are_file_names(self):
        self.check(1, ("person/or", "person/or"), ("*/and", "on/and"))

    def test_does_not_look_at_the_rules(self):
        self.assertEqual(ask_last(call(RULES, "sticky 'a'"), call(MATCHES, "b", "b")), [1])


if __name__ == "__main__":
    unittest.main()
