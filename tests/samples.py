"""Tables, stages and pipelines made by a seeded random source, for comparisons with slower ways to find the answers."""

from random import Random

from treeworks.errors import LimitExceeded
from treeworks.lots import lots_of
from treeworks.pipelines import Pipeline
from treeworks.stages import Stage
from treeworks.tables import Table

TABLES = [
    Table.read("table lang\nExpr: Add Expr Expr = (1+2)\nExpr: Neg Expr = -1\nExpr: Num digit = 1\nExpr: Nil = z"),
    Table.read("table two\nK: Swap K L = <2,1>\nK: Up K = u1\nK: End = e\nL: List K = [1\nL: One digit = ;1\nL: Stop = ."),
    Table.read("table nat\nN: S N = s1\nN: Z = z"),
    Table.read("table odd\nK: Both digit K digit = 3a2b1\nK: End = e\nK: Fork K K = f2,1"),
]


def random_guard(rng, table, kind, deep):
    maker = rng.choice(table.makers(kind))
    parts = []
    for want in maker.wants:
        bare = want == "digit" or deep == 0 or rng.random() < 0.6
        parts.append("_" if bare else random_guard(rng, table, want, deep - 1))
    return f"{maker.name}({', '.join(parts)})" if parts else maker.name


def random_template(rng, target, kind, bound, states, deep):
    """A template of this kind; `bound` has the kinds of the variables, `states` what the states take and give."""
    calls = [f"{name}({variable})" for name, takes, gives in states for variable in bound
             if gives == kind and takes == bound[variable]]
    if kind == "digit":
        calls += [variable for variable in bound if bound[variable] == "digit"]
        return rng.choice(calls) if calls and rng.random() < 0.8 else rng.choice("0123")
    if calls and (deep == 0 or rng.random() < 0.55):
        return rng.choice(calls)
    makers = target.makers(kind)
    if deep <= 0:
        makers = [maker for maker in makers if all(want == "digit" for want in maker.wants)] or makers
    maker = rng.choice(makers)
    parts = [random_template(rng, target, want, bound, states, deep - 1) for want in maker.wants]
    return f"{maker.name}({', '.join(parts)})" if parts else maker.name


def random_rows(rng, source, target, takes, gives, states):
    rows = []
    for maker in source.makers(takes):
        for guarded in [True] * rng.choice([0, 0, 1, 1]) + [False]:
            parts, bound = [], {}
            for at, want in enumerate(maker.wants):
                guard = random_guard(rng, source, want, 1) if guarded and want != "digit" else ""
                bound["xyz"[at]] = want
                parts.append(f"{'xyz'[at]}:{guard}" if guard else "xyz"[at])
            head = f"{maker.name}({', '.join(parts)})" if parts else maker.name
            rows.append(f"{head} => {random_template(rng, target, gives, bound, states, rng.choice([0, 1, 1, 2]))}")
    return rows[:8]


def random_stage(rng, name, source, target, takes):
    gives = rng.choice(target.kinds)
    states = [("qrst"[0], takes, gives)]
    for at in range(1, rng.choice([1, 2, 2, 3])):
        states.append(("qrst"[at], rng.choice(source.kinds), rng.choice([*target.kinds, *target.kinds, "digit"])))
    for kind in source.kinds:
        if len(states) < 4 and not any(takes == kind for _, takes, _ in states):
            states.append(("qrst"[len(states)], kind, rng.choice(target.kinds)))
    full = [(state, takes, gives, random_rows(rng, source, target, takes, gives, states))
            for state, takes, gives in states]
    return Stage(name, source, target, *full)


def random_pipeline(seed, most_stages=3):
    """A pipeline that belongs to the number; the stages that are too large are left out."""
    rng = Random(seed)
    while True:
        table = rng.choice(TABLES)
        kind = rng.choice(table.kinds)
        stages = []
        try:
            for at in range(rng.randint(1, most_stages)):
                target = rng.choice(TABLES)
                stages.append(random_stage(rng, f"s{at}", table, target, kind))
                table, kind = target, stages[-1].named("q").gives
        except LimitExceeded:
            continue
        return Pipeline(*stages)


def small_pipelines(seeds, most_stages=3):
    """The pipelines of these seeds that are not refused because of their lots."""
    found = []
    for seed in seeds:
        pipeline = random_pipeline(seed, most_stages)
        try:
            lots_of(pipeline)
        except LimitExceeded:
            continue
        found.append(pipeline)
    return found
