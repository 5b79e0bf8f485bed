import unittest

from helpers import LANG, ODD, Raises, read, right_trees
from test_groves import FORK, chain, doubled
from treeworks.changes import Change
from treeworks.errors import BadIndex, LimitExceeded, Mismatch
from treeworks.groves import Grove
from treeworks.patches import Patch
from treeworks.texts import stretch, text_of


def differences(old, new, path=()):
    """The paths of the differences of two trees, found the slow way."""
    if old.name != new.name:
        return [path]
    pairs = enumerate(zip(old.parts, new.parts))
    return [place for at, (part, twin) in pairs for place in differences(part, twin, (*path, at))]


def standing(grove, part):
    return part if isinstance(part, str) else grove.unfolded(part).term


class ChangeTest(unittest.TestCase, Raises):
    def test_example(self):
        grove = Grove(FORK)
        old, new = grove.put(read("P(S(Z), P(Z, Z))")), grove.put(read("P(Z, P(Z, S(Z)))"))
        change = Change(grove, old, new)
        self.assertEqual([change.count, change.path_of(0), change.stretches_of(1), change.patch_of(0),
                          change.text_patch()("(sz(zz))")],
                         [2, (0,), (5, 6, 4, 6), (1, 3, "z"), "(z(zsz))"])
        self.assertEqual((change.grove, change.old, change.new), (grove, old, new))

    def test_against_a_comparison_of_both_trees(self):
        for table in (LANG, ODD):
            grove = Grove(table)
            for kind, trees in right_trees(table, 5).items():
                for old in trees[::3] if kind != "digit" else []:
                    for new in trees[::2]:
                        self.check(grove, old, new)

    def check(self, grove, old, new):
        table = grove.table
        change = Change(grove, grove.put(old), grove.put(new))
        paths = sorted(differences(old, new), key=lambda path: stretch(table, old, path))
        self.assertEqual((change.count, [change.path_of(at) for at in range(change.count)]), (len(paths), paths))
        self.assertEqual(paths, sorted(paths, key=lambda path: stretch(table, new, path)))
        tree = old
        for at, path in enumerate(paths):
            self.assertEqual([standing(grove, part) for part in change.parts_of(at)], [old[path].term, new[path].term])
            self.assertEqual(change.stretches_of(at), stretch(table, old, path) + stretch(table, new, path))
            self.assertEqual(change.patch_of(at), (*stretch(table, old, path), text_of(table, new[path])))
            tree = tree.exchanged(path, new[path])
        self.assertEqual(tree, new)
        self.assertEqual(change.text_patch(), Patch(*[change.patch_of(at) for at in range(change.count)]))
        self.assertEqual(change.text_patch()(text_of(table, old)), text_of(table, new))

    def test_equal_trees_and_the_top(self):
        grove = Grove(LANG)
        number, other = grove.put(read("Add(Nil, Num(3))")), grove.put(read("Neg(Nil)"))
        same, top = Change(grove, number, number), Change(grove, number, other)
        self.assertEqual((same.count, same.text_patch()), (0, Patch()))
        self.raises(BadIndex, same.path_of, 0, index=0)
        self.assertEqual((top.count, top.path_of(0), top.parts_of(0), top.patch_of(0)), (1, (), (number, other), (0, 5, "-z")))

    def test_digits(self):
        grove = Grove(ODD)
        change = Change(grove, grove.put(read("Both(1, End, 2)")), grove.put(read("Both(1, End, 3)")))
        self.assertEqual((change.count, change.path_of(0), change.parts_of(0)), (1, (2,), ("2", "3")))
        self.assertEqual((change.stretches_of(0), change.patch_of(0)), ((0, 1, 0, 1), (0, 1, "3")))

    def test_order_of_the_text(self):
        grove = Grove(ODD)
        change = Change(grove, grove.put(read("Swap(End, Stop)")), grove.put(read("Swap(Both(1, End, 1), One(1, 2))")))
        self.assertEqual([change.path_of(at) for at in range(2)], [(1,), (0,)])
        self.assertEqual(change.text_patch().triples, ((1, 2, "2;1"), (3, 4, "1aeb1")))

    def test_indexes_that_are_none(self):
        grove = Grove(FORK)
        change = Change(grove, grove.put(read("P(S(Z), Z)")), grove.put(read("P(Z, S(Z))")))
        for index in (-1, 2, 99, -2):
            for call in (change.path_of, change.parts_of, change.stretches_of, change.patch_of):
                self.raises(BadIndex, call, index, index=index)

    def test_wrong_arguments(self):
        grove = Grove(ODD)
        end, stop = grove.put(read("End")), grove.put(read("Stop"))
        for old, new, index in ((-1, 9, -1), (9, -1, 9), (end, 9, 9), (stop, -1, -1), (2, 3, 2)):
            self.raises(BadIndex, Change, grove, old, new, index=index)
        self.raises(Mismatch, Change, grove, end, stop)

    def test_differences_far_beyond_what_can_be_listed(self):
        grove = Grove(FORK)
        old = doubled(grove, 300)
        small, large = grove.put(read("Z")), grove.put(read("S(Z)"))
        new = large
        for _ in range(300):
            bottom = grove.put(read("P(Z, Z)"))
            new = grove.exchanged(grove.exchanged(bottom, (0,), new), (1,), new)
        change = Change(grove, old, new)
        self.assertEqual(change.count, 2 ** 300)
        index = 2 ** 299 + 5
        path = tuple(int(bit) for bit in f"{index:0300b}")
        self.assertEqual((change.path_of(index), change.parts_of(index)), (path, (small, large)))
        start, end, new_start, new_end = change.stretches_of(index)
        self.assertEqual((start, end), grove.stretch_of(old, path))
        self.assertEqual((new_start, new_end), grove.stretch_of(new, path))
        self.assertEqual(change.patch_of(index), (start, start + 1, "sz"))
        self.raises(BadIndex, change.path_of, 2 ** 300, index=2 ** 300)
        self.raises(LimitExceeded, change.text_patch, limit="window")

    def test_many_levels(self):
        grove = Grove(FORK)
        change = Change(grove, chain(grove, 20000), chain(grove, 10000))
        self.assertEqual((change.count, change.path_of(0), change.patch_of(0)), (1, (0,) * 10000, (10000, 20001, "z")))

    def test_windows_of_400_and_401_characters(self):
        grove = Grove(FORK)
        old = grove.put(read("Z"))
        fits, other = Change(grove, old, chain(grove, 399)), Change(grove, old, chain(grove, 400))
        self.assertEqual(fits.patch_of(0), (0, 1, "s" * 399 + "z"))
        self.assertEqual(fits.text_patch()("z"), "s" * 399 + "z")
        self.raises(LimitExceeded, other.patch_of, 0, limit="window")
        self.raises(LimitExceeded, other.text_patch, limit="window")
        self.raises(BadIndex, other.patch_of, 1, index=1)
        # The old stretch may be longer.
        self.assertEqual(Change(grove, chain(grove, 900), old).patch_of(0), (0, 901, "z"))

    def test_100_and_101_differences(self):
        grove = Grove(FORK)
        for many in (100, 101):
            old, new = grove.put(read("Z")), grove.put(read("Z"))
            for _ in range(many):
                top, changed = grove.put(read("P(Z, Z)")), grove.put(read("P(S(Z), Z)"))
                old, new = grove.exchanged(top, (1,), old), grove.exchanged(changed, (1,), new)
            change = Change(grove, old, new)
            self.assertEqual(change.count, many)
            if many == 100:
                text = "(z" * 100 + "z" + ")" * 100
                self.assertEqual(change.text_patch()(text), "(sz" * 100 + "z" + ")" * 100)
            else:
                self.raises(LimitExceeded, change.text_patch, limit="window")


if __name__ == "__main__":
    unittest.main()
