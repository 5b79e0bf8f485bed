"""A slow way to decide about certificates, for pipelines whose lots are not too many."""

from itertools import product

from treeworks.certificates import Certificate, Shown
from treeworks.errors import BadCertificate, LimitExceeded, WorkError
from treeworks.lots import lots_of
from treeworks.pipelines import Pipeline
from treeworks.trees import Tree
from treeworks.walks import Walk


def slow_accepts(certificate, *stages):
    try:
        certificate = Certificate.read("\n".join(certificate.lines()))
    except BadCertificate:
        return False
    named = {stage.name: stage for stage in stages[::-1]}
    try:
        pipeline = Pipeline(*[named[name] for name in certificate.title.split(".")])
    except (KeyError, WorkError):
        return False
    return Slow(pipeline, certificate).holds()


class Slow:
    def __init__(self, pipeline, certificate):
        self.pipeline, self.certificate = pipeline, certificate
        self.walk = Walk(pipeline)
        self.lots = self.walk.lots
        self.source = pipeline.source
        self.listed = {}

    def holds(self):
        if not self.lists() or not self.runs():
            return False
        return self.shows() if isinstance(self.certificate, Shown) else self.reaches()

    def lists(self):
        """All lots are listed once each: lists that are closed contain all lots."""
        for term in self.certificate.lots:
            tree = Tree.read(term)
            try:
                lot = self.lots.lot(tree)
            except WorkError:
                return False
            key = (self.kind(tree), lot)
            if key in self.listed:
                return False
            self.listed[key] = tree
        kinds = [*self.source.kinds, *(["digit"] if any("digit" in maker.wants for maker in self.source) else [])]
        wanted = {(kind, lot) for kind in kinds for lot in range(self.lots.many(kind))}
        return set(self.listed) - {("digit", 0)} == wanted - {("digit", 0)} and wanted <= set(self.listed)

    def kind(self, tree):
        return "digit" if tree.name.isdigit() else self.source.maker(tree.name).kind

    def choices(self):
        """All nodes over listed trees: the maker, the lots and the trees of the parts."""
        for maker in self.source:
            rows = [[lot for kind, lot in self.listed if kind == want] for want in maker.wants]
            for lots in product(*rows):
                yield maker, lots, [self.listed[pair] for pair in zip(maker.wants, lots)]

    def runs(self):
        trees = [tree for (kind, _), tree in self.listed.items() if kind != "digit"]
        trees += [Tree(maker.name, *parts) for maker, _, parts in self.choices()]
        try:
            for tree in trees:
                self.run_all(0, tree)
        except LimitExceeded:
            return False
        return True

    def run_all(self, at, tree):
        if at < len(self.pipeline.stages):
            stage = self.pipeline.stages[at]
            for state in stage.states:
                if state.takes == stage.source.maker(tree.name).kind and state.gives != "digit":
                    self.run_all(at + 1, stage.run(state.name, tree))

    def reaches(self):
        ranked = {}
        for first, second, rank in self.certificate.ranks:
            if first not in self.certificate.lots or second not in self.certificate.lots or first == second:
                return False
            old, new = Tree.read(first), Tree.read(second)
            key = (self.kind(old), self.lots.lot(old), self.lots.lot(new))
            if self.kind(old) != self.kind(new) or key in ranked or rank > self.certificate.frames:
                return False
            ranked[key] = rank
        for kind, old in self.listed:
            for other, new in self.listed:
                if kind == other and old != new and (kind, old, new) not in ranked:
                    return False
        for maker, lots, _ in self.choices():
            for at, want in enumerate(maker.wants):
                for kind, new in self.listed:
                    after = (*lots[:at], new, *lots[at + 1:])
                    if kind == want and new != lots[at]:
                        ends = self.lots.step(maker.name, *lots), self.lots.step(maker.name, *after)
                        if ends[0] != ends[1] and ranked[(want, lots[at], new)] <= ranked[(maker.kind, *ends)]:
                            return False
        return True

    def shows(self):
        tree, pattern = Tree.read(self.certificate.term), Tree.read(self.certificate.pattern)
        if not self.source.fits(tree, self.pipeline.takes, holes=True):
            return False
        self.lines = {}
        for word, term, written in self.certificate.shows:
            try:
                self.pipeline.applied(word, Tree.read(term))
            except LimitExceeded:
                pass
            except WorkError:
                return False
            if term not in self.certificate.lots or (word, self.lots.lot(Tree.read(term))) in self.lines:
                return False
            self.lines[(word, self.lots.lot(Tree.read(term)))] = Tree.read(written)
        return self.covers() and self.upwards(tree, pattern) and self.opens(tree, pattern)

    def covers(self):
        for (word, lot), pattern in self.lines.items():
            takes = self.pipeline.stages[0].named(word.split(".")[0]).takes
            for maker, lots, _ in self.choices():
                if maker.kind == takes and self.lots.step(maker.name, *lots) == lot:
                    shown = self.walk.unfold(word, maker.name, *lots)
                    if not pattern.covers(self.put_in(shown, lambda inner, at: self.lines.get((inner, lots[at]), Tree("_")))):
                        return False
        return True

    def put_in(self, tree, line):
        """The unfolded tree with what stands for each call `w(i)` and each `digit(i)`."""
        if tree.name[0].islower():
            return line(tree.name, int(tree.parts[0].name))
        return Tree(tree.name, *[self.put_in(part, line) for part in tree.parts])

    def possible(self, tree, due):
        """The lots that a tree with holes can have."""
        if tree.name == "_":
            return {lot for kind, lot in self.listed if kind == due}
        if tree.name.isdigit():
            return {0}
        wants = self.source.maker(tree.name).wants
        rows = [self.possible(part, want) for part, want in zip(tree.parts, wants)]
        return {self.lots.step(tree.name, *lots) for lots in product(*rows)}

    def upwards(self, tree, pattern):
        try:
            found = [self.met(tree, self.pipeline.takes, self.pipeline.start, lot)
                     for lot in self.possible(tree, self.pipeline.takes)]
        except OverflowError:
            return False
        common = found[0]
        for other in found:
            common = common & other
        return pattern.covers(common)

    def met(self, tree, due, word, lot):
        if word == "digit":
            return tree
        if tree.name == "_":
            return self.small(self.lines.get((word, lot), tree))
        wants = self.source.maker(tree.name).wants
        common = None
        for lots in product(*[self.possible(part, want) for part, want in zip(tree.parts, wants)]):
            if self.lots.step(tree.name, *lots) == lot:
                shown = self.walk.unfold(word, tree.name, *lots)
                shown = self.put_in(shown, lambda inner, at: self.met(tree.parts[at], wants[at], inner, lots[at]))
                common = self.small(shown) if common is None else common & self.small(shown)
        return common

    def small(self, tree):
        if tree.size > 2000 or tree.levels > 60:
            raise OverflowError
        return tree

    def opens(self, tree, pattern):
        if sorted(path for path, _, _ in self.certificate.openings) != sorted(pattern.holes()):
            return False
        for path, first, second in self.certificate.openings:
            names = []
            for filling in (Tree.read(first), Tree.read(second)):
                if not tree.covers(filling) or not self.source.fits(filling, self.pipeline.takes):
                    return False
                try:
                    names.append(self.pipeline(filling)[path].name)
                except LimitExceeded:
                    return False
            if names[0] == names[1]:
                return False
        return True
