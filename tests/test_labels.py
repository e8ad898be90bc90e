"""Points 12 to 14: labels, names, gaps, joining."""

import itertools
import unittest

from goodtill.labels import check_label, check_name, gap_of, is_inside, joined_name
from tests.told import ANYTHING, nested, told


class Labels(unittest.TestCase):
    def test_labels_are_returned_as_they_are(self):
        for label in ("a", "z", "az", "abcdefgh", "zzzzzzzz"):
            self.assertIs(check_label(label), label)

    def test_no_strings(self):
        for value in ANYTHING + (nested(100), nested(100, "a", list)):
            if not isinstance(value, str) or value == "":
                self.assertEqual(told(check_label, value), ("BadLabel", -1))

    def test_the_least_index(self):
        cases = (("A", 0), ("-a", 0), ("ab-", 2), ("a b", 1), ("ab1c", 2), ("abcdefghi", 8), ("abcdefgh-", 8),
                 ("abcdefg-i", 7), ("a-b-cdefghi", 1), ("`", 0), ("{", 0), ("a" * 30, 8), ("\xe9", 0), ("aa\u0430", 2),
                 ("a\n", 1), ("\x00", 0))
        for text, at in cases:
            self.assertEqual(told(check_label, text), ("BadLabel", at), text)


class Names(unittest.TestCase):
    def test_names_are_returned_as_they_are(self):
        for name in (("a",), ("a", "zz"), ("a",) * 6, ("abcdefgh",) * 6):
            self.assertIs(check_name(name), name)

    def test_no_tuples(self):
        for value in (None, True, 0, "", "a", "abc", (), [], ["a"], [("a",)]):
            self.assertEqual(told(check_name, value), ("BadName", -1))

    def test_the_least_index(self):
        cases = ((("",), 0), (("a", ""), 1), (("a", "b", None), 2), (("a",) * 7, 6), (("a",) * 6 + (None,), 6),
                 (("a",) * 5 + ("-", "-"), 5), ((True,), 0), ((("a",),), 0), (("a", ["b"]), 1), (("A", "b", ""), 0),
                 (("abcdefghi", "a"), 0), (("a",) * 160, 6), ((nested(99),), 0))
        for value, at in cases:
            self.assertEqual(told(check_name, value), ("BadName", at), value)


class Gaps(unittest.TestCase):
    def test_is_inside(self):
        words = ("a", "ab", "abc", "b", "zz", "zzz")
        for label in words:
            for low in (None,) + words:
                for high in (None,) + words:
                    expected = (low is None or low < label) and (high is None or label < high)
                    self.assertIs(is_inside(low, label, high), expected)

    def test_each_label_lies_in_one_gap_or_is_one_of_the_labels(self):
        words = sorted("".join(signs) for many in (1, 2, 3) for signs in itertools.product("ab", repeat=many))
        for many in (0, 1, 2, 3, 5, len(words)):
            for labels in list(itertools.combinations(words, many))[:200]:
                gaps = list(zip((None,) + labels, labels + (None,)))
                for label in words:
                    found = [gap for gap in gaps if is_inside(gap[0], label, gap[1])]
                    if label in labels:
                        self.assertEqual(found, [])
                        self.assertEqual(told(gap_of, labels, label), ("Refused", label))
                    else:
                        self.assertEqual([gap_of(labels, label)], found)

    def test_prefixes(self):
        labels = ("a", "aa", "aaaa", "ab")
        self.assertEqual(gap_of(labels, "aaa"), ("aa", "aaaa"))
        self.assertEqual(gap_of(labels, "aaaaa"), ("aaaa", "ab"))
        self.assertEqual(gap_of(labels, "aba"), ("ab", None))

    def test_no_labels_and_many(self):
        self.assertEqual(gap_of((), "a"), (None, None))
        labels = tuple(sorted("abcdefghij"[k % 10] * (1 + k // 10) for k in range(60)))
        self.assertEqual(gap_of(labels, "z"), (labels[-1], None))
        self.assertEqual(told(gap_of, labels, labels[-1]), ("Refused", labels[-1]))


class Joining(unittest.TestCase):
    def test_all_lengths(self):
        letters = ("a", "b", "c", "d", "e", "f")
        for many in range(1, 7):
            for more in range(0, 7):
                target, rest = letters[:many], ("x",) * more
                expected = target + rest if many + more <= 6 else None
                self.assertEqual(joined_name(target, rest), expected)

    def test_six_and_seven(self):
        self.assertEqual(joined_name(("a",) * 3, ("b",) * 3), ("a", "a", "a", "b", "b", "b"))
        self.assertIsNone(joined_name(("a",) * 3, ("b",) * 4))
        self.assertIsNone(joined_name(target=("a",) * 6, rest=("b",)))


if __name__ == "__main__":
    unittest.main()
