"""Pipelines at the bounds that the document names."""

from treeworks.pipelines import Pipeline
from treeworks.stages import Stage
from treeworks.tables import Table

LEAVES = ["A", "B", "C", "D", "E", "F"]
CHAIN = Table("chain", ("N", "S", ("N",), "s1"), *[("N", leaf, (), leaf.lower()) for leaf in LEAVES])
FORKED = Table("forked", ("N", "S", ("N",), "s1"), ("N", "P", ("N", "N"), "(12)"),
               *[("N", leaf, (), leaf.lower()) for leaf in LEAVES])


def chain_stage(name, guarded, table=CHAIN):
    """A stage that takes one `S` away, and that knows chains of at most two `S` above the guarded leaves."""
    forks = [["P(x, y) => P(a(x), a(y))"], ["P(x, y) => P(b(x), b(y))"]] if table == FORKED else [[], []]
    copied = [f"{leaf} => {leaf}" for leaf in LEAVES]
    states = [("a", "N", "N", ["S(x) => b(x)", *forks[0], *copied]), ("b", "N", "N", ["S(x) => S(b(x))", *forks[1], *copied])]
    if guarded:
        states.append(("c", "N", "N", [*[f"S(x:S(S({leaf}))) => A" for leaf in guarded], "_ => A"]))
    return Stage(name, table, table, *states)


def chain_pipeline(*guarded, table=CHAIN):
    """A pipeline of such stages; the first one has 3 lots for each guarded leaf and more, each other one adds some."""
    return Pipeline(*[chain_stage(f"s{at}", leaves, table) for at, leaves in enumerate(guarded)])


PAIRS = Table.read("table pairs\nN: P N N = (12)\nN: Z = z\nN: B = b")
BIG_LEAVES = "table leaves\nN: P N N = (12)\nN: L M = l1\nN: B = b\nM: {}"


def balance_pipeline(leaf):
    """Four stages that tell how high a balanced tree is, up to eight levels; its leaves are `L` with a part like this."""
    leaves = Table.read(BIG_LEAVES.format(leaf))
    first = Stage("first", leaves, PAIRS, ("a", "N", "N", [
        "P(x:P(L(_), L(_)), y:P(L(_), L(_))) => Z", "P(x:P(_, _), y:P(_, _)) => P(a(x), a(y))", "_ => B",
    ]))
    next_one = Stage("next", PAIRS, PAIRS, ("a", "N", "N", [
        "P(x:P(Z, Z), y:P(Z, Z)) => Z", "P(x:P(_, _), y:P(_, _)) => P(a(x), a(y))", "_ => B",
    ]))
    last = Stage("last", PAIRS, PAIRS, ("a", "N", "N", ["P(x:P(P(Z, Z), P(Z, Z)), y) => Z", "_ => B"]))
    return Pipeline(first, next_one, next_one, last)


GROWING = Table.read("table growing\nN: P N N = (12)\nN: S N = s1\nN: Z = z")


def growing_stage(name, template, *others):
    """A stage that makes this of each `P`, and leaves the rest; the other states follow."""
    return Stage(name, GROWING, GROWING, ("a", "N", "N", [f"P(x, y) => {template}", "S(x) => S(a(x))", "Z => Z"]), *others)


BIG = "P(P(a(x), a(y)), P(a(x), P(a(x), a(y))))"

# Three stages of this lead to more than 50000 names.
BIGGER = "P(P(a(y), a(y)), P(a(y), P(a(y), a(x))))"


def unfolding_pipeline(first_row):
    """A pipeline whose unfolded tree at `P` has some names less than 50000; the row tells how many more there are."""
    steps = ["P(P(a(x), P(a(x), a(y))), a(y))", "P(P(a(x), a(y)), a(x))"]
    last = Stage(
        "last", GROWING, GROWING, ("c", "N", "N", [first_row, "_ => Z"]),
        ("a", "N", "N", ["P(x, y) => P(Z, P(a(x), P(a(x), a(y))))", "S(x) => S(a(x))", "Z => Z"]),
        ("f", "N", "N", ["P(x, y) => a(y)", "_ => Z"]),
    )
    return Pipeline(growing_stage("one", BIG), growing_stage("two", steps[0]), growing_stage("three", steps[1]), last)


LINES = Table.read("table lines\nN: P N N = (12)\nN: S N = s1\nN: Z = z")


def line_pipeline(template):
    """A pipeline with one result, in which the template stands above chains of 132 names for `b(x)`."""
    longer = ["S(x) => S(S(S(a(x))))", "P(x, y) => Z"]
    return Pipeline(
        Stage("one", LINES, LINES, ("a", "N", "N", ["_ => S(S(S(S(Z))))"])),
        Stage("two", LINES, LINES, ("a", "N", "N", [*longer, "Z => S(S(Z))"])),
        Stage("three", LINES, LINES, ("a", "N", "N", [*longer, "Z => S(S(Z))"])),
        Stage("four", LINES, LINES, ("c", "N", "N", [f"S(x) => {template}", "_ => Z"]),
              ("b", "N", "N", ["S(x) => S(S(S(b(x))))", "P(x, y) => Z", "Z => S(S(Z))"])),
    )


WORDS = Table.read("table words\nN: P N N = (12)\nN: D digit digit N = d123\nN: Z = z")


def word_stage(name, kinds, digits):
    """A stage with some states that give a kind, and some that give digits; each one of the former calls two others."""
    trees, parts = "abcd"[:kinds], "abcd"[kinds:kinds + digits]
    states = []
    for at, state in enumerate(trees):
        after = trees[(at + 1) % kinds]
        known = [f"{part}(y)" for part in parts] + ["0", "0"]
        rows = [f"P(x, y) => D({known[0]}, {known[1]}, P({state}(x), {after}(y)))", f"D(d, e, x) => D(e, d, {after}(x))"]
        states.append((state, "N", "N", [*rows, "Z => Z"]))
    for part in parts:
        states.append((part, "N", "digit", ["D(d, e, x) => d", f"P(x, y) => {part}(x)", "_ => 0"]))
    return Stage(name, WORDS, WORDS, *states)


def word_pipeline(*states):
    return Pipeline(*[word_stage(f"s{at}", kinds, digits) for at, (kinds, digits) in enumerate(states)])


TWENTY = ((2, 2), (2, 1), (3, 1))
TWENTY_ONE = ((2, 1), (2, 2), (3, 1))


LOADS = Table.read("table loads\nN: P N N = (12)\nN: S N = s1\nN: A N = a1\nN: B N = b1\nN: C N = c1\nN: Z = z")


def joined_calls(state, many):
    """A template with so many calls of a state for x."""
    template = f"{state}(x)"
    for _ in range(many - 1):
        template = f"P({state}(x), {template})"
    return template


def load_stage(name, factors, keeps):
    """A stage with one state more than factors: at `A`, `B` or `C` each one calls the next one so many times."""
    states = []
    for at, state in enumerate("abcd"[:len(factors) + 1]):
        rows = [f"P(x, y) => P({state}(x), {state}(y))"] if keeps else []
        for at_maker, maker in enumerate("ABC"):
            last = at == len(factors)
            rows.append(f"{maker}(x) => " + (f"{maker}({state}(x))" if last else joined_calls("abcd"[at + 1], factors[at][at_maker])))
        states.append((state, "N", "N", [*rows, f"S(x) => S({state}(x))", "_ => Z"]))
    return Stage(name, LOADS, LOADS, *states)


def load_pipeline(factors):
    """Four stages, each of which goes through its states before the next one does; `P` is dropped by the first one."""
    stages = [load_stage(f"s{at}", factors[at:at + 3], at > 0) for at in range(0, len(factors), 3)]
    return Pipeline(*stages)


def many_loads(factors):
    """The number of loads of this pipeline: all products of factors, and the load of zeros."""
    products, many = {1}, 2
    for row in factors:
        products = {product * factor for product in products for factor in row}
        many += len(products)
    return many


LOADS_2000 = [(3, 2, 4), (5, 2, 4), (5, 1, 3), (4, 5, 2), (3, 1, 2), (2, 3, 4), (1, 4, 3), (2, 4, 5), (2, 1, 3), (2, 4, 3),
              (1, 3, 4), (1, 4, 5)]
LOADS_2001 = [(3, 2, 5), (2, 1, 5), (2, 1, 5), (4, 3, 1), (5, 4, 1), (5, 4, 2), (4, 1, 2), (5, 3, 2), (5, 4, 2), (2, 4, 5),
              (1, 5, 3), (5, 1, 2)]
