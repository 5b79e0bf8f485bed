import unittest
from random import Random

from helpers import Raises
from treeworks.errors import BadPatch
from treeworks.patches import Patch


def random_patch(rng, length):
    """A patch that fits texts of this length; stretches may touch and be empty."""
    cuts = sorted(rng.randint(0, length) for _ in range(2 * rng.randint(0, 4)))
    triples = []
    for at in range(0, len(cuts), 2):
        triples.append((cuts[at], cuts[at + 1], "".join(rng.choice("xyz") for _ in range(rng.randint(0, 3)))))
    return Patch(*triples)


class PatchTest(unittest.TestCase, Raises):
    def test_example(self):
        a, b = Patch((1, 3, "z")), Patch((0, 1, "[["), (3, 3, "!"))
        self.assertEqual([a("(sz(zz))"), (a + b)("(sz(zz))"), a.back("(sz(zz))")("(z(zz))")],
                         ["(z(zz))", "[[z(!zz))", "(sz(zz))"])

    def test_triples(self):
        self.assertEqual(Patch().triples, ())
        self.assertEqual(Patch((1, 3, "z"), (3, 3, "")).triples, ((1, 3, "z"), (3, 3, "")))

    def test_bad_triples(self):
        for triples, index in (
            ([(-1, 0, "")], 0), ([(2, 1, "")], 0), ([(-3, -2, "a")], 0), ([(0, 2, ""), (1, 3, "")], 1), ([(0, 2, ""), (3, 2, "")], 1),
            ([(0, 0, ""), (0, 0, "a"), (4, 5, ""), (4, 4, "")], 3), ([(5, 4, ""), (-1, 0, "")], 0), ([(1, 1, ""), (0, 0, "")], 1),
        ):
            self.raises(BadPatch, Patch, *triples, index=index)

    def test_triples_that_touch(self):
        self.assertEqual(Patch((0, 0, "a"), (0, 0, "b"), (0, 1, "c"), (1, 1, "d"), (1, 2, ""))("xyz"), "abcdz")

    def test_without_triples(self):
        self.assertEqual([Patch()(text) for text in ("", "abc")], ["", "abc"])
        self.assertTrue(Patch().suits_text(""))
        self.assertEqual((Patch() + Patch())("abc"), "abc")
        self.assertEqual(Patch().back("abc")("abc"), "abc")

    def test_where_a_patch_fits(self):
        patch = Patch((1, 2, "x"), (4, 5, "yy"))
        self.assertEqual([patch.suits_text("a" * many) for many in (0, 1, 2, 4, 5, 6)], [False] * 4 + [True, True])
        self.assertEqual(patch("abcde"), "axcdyy")
        self.raises(BadPatch, patch, "abcd", index=1)
        self.raises(BadPatch, patch, "a", index=0)
        self.raises(BadPatch, patch.back, "abcd", index=1)
        self.raises(BadPatch, patch.back, "", index=0)
        self.assertEqual(Patch((3, 3, "!"))("abc"), "abc!")
        self.raises(BadPatch, Patch((4, 4, "!")), "abc", index=0)

    def test_back(self):
        rng = Random(7)
        for _ in range(2000):
            text = "".join(rng.choice("abcd") for _ in range(rng.randint(0, 12)))
            patch = random_patch(rng, len(text))
            self.assertEqual(patch.back(text)(patch(text)), text)

    def test_joined(self):
        rng = Random(8)
        for _ in range(4000):
            text = "".join(rng.choice("abcd") for _ in range(rng.randint(0, 12)))
            first = random_patch(rng, len(text))
            second = random_patch(rng, len(first(text)))
            joined = first + second
            for longer in (text, text + "e", text + "efghijkl"):
                self.assertTrue(joined.suits_text(longer))
                self.assertEqual(joined(longer), second(first(longer)))

    def test_joined_where_the_first_one_fits_only_longer_texts(self):
        first, second = Patch((5, 6, "")), Patch((0, 2, "x"))
        self.assertEqual((first + second)("abcdefg"), "xcdeg")
        self.assertEqual((Patch((0, 3, "")) + Patch((2, 2, "!")))("abcde"), "de!")
        self.assertEqual((Patch((0, 0, "abc")) + Patch((1, 2, "")))(""), "ac")

    def test_joined_three_times(self):
        rng = Random(9)
        for _ in range(300):
            text = "abcdefgh"
            patches = []
            here = text
            for _ in range(3):
                patches.append(random_patch(rng, len(here)))
                here = patches[-1](here)
            self.assertEqual(((patches[0] + patches[1]) + patches[2])(text), here)
            self.assertEqual((patches[0] + (patches[1] + patches[2]))(text), here)

    def test_equality(self):
        self.assertEqual(Patch((1, 2, "a")), Patch((1, 2, "a")))
        self.assertEqual(Patch(), Patch())
        for other in (Patch(), Patch((1, 2, "b")), Patch((1, 2, "a"), (2, 2, "")), Patch((0, 2, "a"))):
            self.assertFalse(Patch((1, 2, "a")) == other)

    def test_nothing_changes(self):
        a, b = Patch((1, 3, "z")), Patch((0, 1, "[["))
        a("abcd")
        a.back("abcd")
        a + b
        self.assertEqual((a.triples, b.triples), (((1, 3, "z"),), ((0, 1, "[["),)))


if __name__ == "__main__":
    unittest.main()
