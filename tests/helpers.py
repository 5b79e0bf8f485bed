"""What several tests use."""

from itertools import product

from treeworks.tables import Table
from treeworks.trees import Tree

LANG = Table.read(
    "table lang\nExpr: Add Expr Expr = (1+2)\nExpr: Neg Expr = -1\nExpr: Num digit = 1\nExpr: Nil = z"
)
# Forms with the parts in another order than the wants, and forms that begin with a digit.
ODD = Table.read(
    "table odd\nK: Swap K L = <2,1>\nK: Both digit K digit = 3a2b1\nK: End = e\nL: List K L = [1:2\nL: Stop = .\n"
    "L: One digit digit = 2;1"
)


def read(term):
    return Tree.read(term)


def terms(trees):
    return [tree.term for tree in trees]


def right_trees(table, most, digits="07"):
    """All right trees with at most so many names, by their kinds, with these digits only; a slow way to know."""
    found = {kind: [] for kind in table.kinds}
    found["digit"] = [Tree(digit) for digit in digits]
    by_size = {(kind, 1): found["digit"] if kind == "digit" else [] for kind in found}
    for size in range(1, most + 1):
        for kind in table.kinds:
            by_size[(kind, size)] = []
        for maker in table:
            for sizes in product(range(1, size), repeat=len(maker.wants)):
                if sum(sizes) == size - 1:
                    rows = [by_size.get((want, part), []) for want, part in zip(maker.wants, sizes)]
                    for parts in product(*rows):
                        tree = Tree(maker.name, *parts)
                        by_size[(maker.kind, size)].append(tree)
                        found[maker.kind].append(tree)
    return found


class Raises:
    """Mixed into test cases: `raises` checks the class and the attributes of an error."""

    def raises(self, error, call, *args, **attributes):
        with self.assertRaises(error) as caught:
            call(*args)
        self.assertIs(caught.exception.__class__, error)
        self.assertEqual(vars(caught.exception), attributes)
        return caught.exception
