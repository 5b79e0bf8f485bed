"""What the document promises over the whole program."""

import ast
import doctest
import re
import unittest
from pathlib import Path

from helpers import LANG, ODD, Raises, read
from test_groves import FORK, entries_of
from test_lots import MIXED, TIDY
from test_reaches import EVEN, TOP
from test_shared import TWICE
from treeworks.asking import Inquiry, Typist
from treeworks.bench import Bench
from treeworks.certificates import Reach, Shown
from treeworks.changes import Change
from treeworks.checker import accepts
from treeworks.documents import Document
from treeworks.effects import effect, effect_stretches, hanging, source_stretches
from treeworks.errors import (
    BadCount, BadIndex, BadName, BadPack, LimitExceeded, Mismatch, NoPlace, NothingLeft, Repeated, Unknown, WorkError,
    WrongSign, WrongTree,
)
from treeworks.groves import Grove
from treeworks.loads import copying, growth, spreading
from treeworks.lots import lots_of, looks
from treeworks.making import show_reach, show_sure
from treeworks.outlines import needed
from treeworks.patches import Patch
from treeworks.pipelines import Pipeline
from treeworks.reaches import frames_changed, ranks, reaching, ring
from treeworks.shared import SharedRun, pack, unpack
from treeworks.sharing import owners
from treeworks.stages import Stage
from treeworks.sure import Sure
from treeworks.tables import Table
from treeworks.walks import Walk
from treeworks.works import Works

ROOT = Path(__file__).resolve().parent.parent
DOCUMENT = ROOT.parent / "shared" / "DOC.md"
P = Pipeline(TIDY)

INTERFACE = {
    "trees": {"Tree": "read __eq__ __lt__ __le__ __and__ covers __contains__ __getitem__ __iter__ paths exchanged holes filled "
                      "recoded whole"},
    "tables": {"Maker": "", "Table": "read __eq__ __contains__ __iter__ maker makers least check fits"},
    "texts": "text_of parse sketch awaited closing stretch sign_path",
    "rows": {"Row": "read suits"},
    "stages": {"State": "", "Stage": "read named choice run __call__"},
    "pipelines": {"Pipeline": "__call__ translated __add__ __mul__ __rmul__ __eq__ __iter__ applied origins"},
    "works": {"Works": "read add_table add_stage add_pipeline table_named stage_named pipeline_named __iter__ script"},
    "algebras": {"LotTable": "many least step lot lines"},
    "lots": "looks lots_of parting_look",
    "walks": {"Walk": "__call__ visits unfold words"},
    "sets": {"TreeSet": "every covered holding single __and__ __or__ __sub__ __xor__ __invert__ __contains__ __eq__ within "
                        "smallest number classes nearest", "before": None},
    "sure": {"Sure": "sure_line", "sure_result": None},
    "outlines": "outline opening needed two_fillings",
    "asking": {"Typist": "__call__ parting erase", "Inquiry": "__call__"},
    "effects": "effect hanging changing effect_stretches source_stretches",
    "sharing": "owners apart put_together clash",
    "certificates": {"Certificate": "read", "Shown": "lines", "Reach": "lines"},
    "checker": "accepts",
    "reaches": "frames_changed reach reaching ring ranks",
    "loads": "copies spread copying spreading growth",
    "making": "show_sure show_reach",
    "groves": {"Grove": "put entry kind_of size_of levels_of length_of unfolded sign_at path_at window stretch_of part_at exchanged "
                        "entries"},
    "shared": {"pack": None, "unpack": None, "SharedRun": "__call__"},
    "changes": {"Change": "path_of parts_of stretches_of patch_of text_patch"},
    "patches": {"Patch": "__call__ suits_text __add__ back __eq__"},
    "documents": {"Document": "edited put_at span_of right"},
    "bench": {"Bench": "rewrite edit exchange __setitem__ __getitem__ wish change undo redo since log replay trial report text pipeline "
                       "shown output work moment deeds patch", "Trial": "__enter__ __exit__"},
}


def outcome(call):
    """What a call returns, or its error."""
    try:
        return call()
    except WorkError as error:
        return error.__class__, vars(error)


class InterfaceTest(unittest.TestCase):
    def test_everything_is_defined_in_its_file(self):
        for module, names in INTERFACE.items():
            body = ast.parse((ROOT / "treeworks" / f"{module}.py").read_text()).body
            classes = {node.name: node for node in body if isinstance(node, ast.ClassDef)}
            functions = {node.name for node in body if isinstance(node, ast.FunctionDef)}
            for name, methods in (dict.fromkeys(names.split()) if isinstance(names, str) else names).items():
                if methods is None:
                    self.assertIn(name, functions, module)
                else:
                    own = {node.name for node in classes[name].body if isinstance(node, ast.FunctionDef)}
                    self.assertEqual(set(methods.split()) - own, set(), f"{module}.{name}")

    def test_class_values(self):
        values = (Typist.MOST_SIGNS, Table.MOST_ROWS, Table.MOST_KINDS, Stage.MOST_STATES, Stage.MOST_ROWS, Pipeline.MOST_STAGES)
        self.assertEqual(values, (50, 10, 3, 4, 8, 4))

    def test_what_the_readme_shows(self):
        results = doctest.testfile(str(ROOT / "README.md"), module_relative=False)
        self.assertGreater(results.attempted, 15)
        self.assertEqual(results.failed, 0)

    @unittest.skipUnless(DOCUMENT.exists(), "the document is not beside the project")
    def test_the_examples_of_the_document(self):
        blocks = re.findall(r"```\n(>>> .*?)```", DOCUMENT.read_text(), re.DOTALL)
        self.assertGreater(len(blocks), 10)
        for block in blocks:
            self.check(block.rstrip("\n").split("\n"))

    def check(self, lines):
        names = {}
        for at, line in enumerate(lines):
            if not line.startswith(">>> "):
                continue
            answer = lines[at + 1] if at + 1 < len(lines) and not lines[at + 1].startswith(">>> ") else ""
            if answer.startswith("raises "):
                with self.assertRaises(WorkError) as caught:
                    exec(line[4:], names)
                fields = ", ".join(f"{name}={value!r}" for name, value in vars(caught.exception).items())
                self.assertEqual(f"raises {caught.exception.__class__.__name__}({fields})", answer)
            elif answer:
                self.assertEqual(repr(eval(line[4:], names)), answer)
            else:
                exec(line[4:], names)


class ListsTest(unittest.TestCase):
    def test_returned_lists_are_new(self):
        grove = Grove(LANG)
        number = grove.put(read("Add(Num(7), Nil)"))
        sure = Sure(P)
        walk = Walk(P)
        tree = read("Add(Neg(Nil), Num(7))")
        bench = Bench(P, "(-z+3)")
        bench.edit(2, 1, "?")
        certificate, other = show_sure(P, read("Add(Neg(_), Num(7))")), show_reach(Pipeline(*TOP))
        calls = [
            read("Add(_, _)").holes, lots_of(P).lines, walk.words, lambda: P.origins(tree), lambda: needed(sure, read("Add(_, _)")),
            lambda: effect(sure, tree, (0,)), lambda: effect(sure, tree, (0,), kept=True), lambda: hanging(sure, tree, (1,)),
            lambda: effect_stretches(sure, tree, (0,)), lambda: source_stretches(sure, tree, 1), lambda: owners(sure, tree, (0,), (1,)),
            certificate.lines, other.lines, lambda: ranks(TOP), lambda: ring(EVEN), lambda: pack(grove, number), bench.log,
        ]
        for call in calls:
            first = call()
            self.assertIsInstance(first, list)
            copy = list(first)
            self.assertGreater(len(copy), 0)
            first.clear()
            self.assertEqual(call(), copy)

    def test_returned_tuples(self):
        self.assertIsInstance(looks(TIDY, "Expr"), tuple)
        self.assertIsInstance(Document(LANG, "Expr", "(").broken, tuple)
        self.assertIsInstance(Patch((0, 0, "")).triples, tuple)
        for found in (reaching(TOP, 1), spreading(P, 1), copying(P, 1), growth(Pipeline(TWICE))):
            self.assertIsInstance(found, tuple)

    def test_passed_lists_are_not_changed_and_copied(self):
        rows = ["S(x) => S(a(x))", "_ => Z"]
        stage = Stage("s", FORK, FORK, ("a", "K", "K", rows))
        self.assertEqual(rows, ["S(x) => S(a(x))", "_ => Z"])
        rows.clear()
        self.assertEqual(stage(read("S(Z)")), read("S(Z)"))
        lots, lines = ["Nil", "Neg(Nil)", "0"], [("t", "Nil", "Nil")]
        shown = Shown("tidy", "Nil", "Nil", lots, lines, [])
        self.assertTrue(accepts(shown, TIDY))
        self.assertEqual((lots, lines), (["Nil", "Neg(Nil)", "0"], [("t", "Nil", "Nil")]))
        lots.clear()
        self.assertTrue(accepts(shown, TIDY))
        row = [2, 0, 0]
        unpack(Grove(FORK), "K", row)
        self.assertEqual(row, [2, 0, 0])
        lines = ["edit 0 0 -"]
        Bench(P, "z").replay(lines)
        self.assertEqual(lines, ["edit 0 0 -"])


class RefusedCallsTest(unittest.TestCase, Raises):
    """Calls that raise an error, on objects that may change: nothing changes."""

    def test_works(self):
        works = Works()
        works.add_table(LANG)
        works.add_stage(TIDY)
        works.add_pipeline("once", "tidy")
        script = works.script()
        for call in (lambda: works.add_table(LANG), lambda: works.add_stage(TWICE), lambda: works.add_pipeline("once", "tidy"),
                     lambda: works.add_pipeline("x", *["tidy"] * 5), lambda: works.add_pipeline("X", "tidy"), lambda: works.add_pipeline("y")):
            self.assertTrue(issubclass(outcome(call)[0], WorkError))
            self.assertEqual((works.script(), list(works)), (script, ["lang", "tidy", "once"]))

    def test_groves(self):
        grove = Grove(ODD)
        grove.put(read("Swap(End, One(1, 2))"))
        entries = entries_of(grove)
        for call in (lambda: grove.put(read("Swap(Swap(End, Stop), End)")), lambda: grove.exchanged(2, (0,), 1),
                     lambda: grove.exchanged(2, (1, 0), 1), lambda: grove.exchanged(2, (0,), 9), lambda: grove.unfolded(9),
                     lambda: grove.window(2, 0, 99), lambda: unpack(grove, "K", [2, 4, 0, 0, 1, 9]), lambda: pack(grove, 9)):
            self.assertTrue(issubclass(outcome(call)[0], WorkError))
            self.assertEqual(entries_of(grove), entries)

    def test_runs(self):
        grove = Grove(ODD)
        run = SharedRun(Pipeline(MIXED), grove, grove)
        run(grove.put(read("Swap(End, One(1, 2))")))
        before = entries_of(grove), run.worked, run.total
        for number, error in ((1, Mismatch), (99, BadIndex), (-1, BadIndex)):
            self.assertEqual(outcome(lambda: run(number))[0], error)
            self.assertEqual((entries_of(grove), run.worked, run.total), before)

    def test_typists_and_inquiries(self):
        typist = Typist(P)
        typist("(")
        for call in (lambda: typist(")"), lambda: typist("A")):
            self.assertEqual(outcome(call)[0], WrongSign)
            self.assertEqual((typist.typed, typist.told), ("(", "("))
        inquiry = Inquiry(P, read("Add(_, Nil)"))
        state = vars(inquiry).copy()
        for part in ("3", "Add(Nil)", "Foo"):
            self.assertEqual(outcome(lambda: inquiry(read(part)))[0], WrongTree)
            self.assertEqual(vars(inquiry), state)


class SeveralFaultsTest(unittest.TestCase):
    """Calls with several faults at once: the one that is named first counts."""

    def test_the_first_one(self):
        grove, odd = Grove(LANG), Grove(ODD)
        number = grove.put(read("Add(Nil, Num(3))"))
        works = Works()
        bench = Bench(P, "(z")
        tree, sure = read("Add(Nil, Num(3))"), Sure(P)
        calls = [
            (lambda: lots_of(P).least("Nope", -1), Unknown, {"name": "Nope"}),
            (lambda: lots_of(P).step("Nope", -1, 9), Unknown, {"name": "Nope"}),
            (lambda: lots_of(P).step("Add", -1), BadCount, {"count": 1}),
            (lambda: Document(LANG, "K", "x" * 60), Unknown, {"name": "K"}),
            (lambda: Document(LANG, "Expr", "z").edited(9, 9, "x" * 60), BadIndex, {"index": 9}),
            (lambda: Document(LANG, "Expr", "z").edited(1, 9, "x" * 60), BadCount, {"count": 9}),
            (lambda: Document(LANG, "Expr", "z").put_at((4,), read("Foo")), NoPlace, {"path": (4,)}),
            (lambda: unpack(grove, "digit", [99]), Unknown, {"name": "digit"}),
            (lambda: unpack(grove, "Expr", [99, -1, 77]), BadPack, {"at": 0}),
            (lambda: grove.exchanged(77, (9,), 88), BadIndex, {"index": 77}),
            (lambda: grove.exchanged(number, (9,), 88), BadIndex, {"index": 88}),
            (lambda: grove.window(number, 9, -1), BadIndex, {"index": 9}),
            (lambda: Change(grove, -1, -2), BadIndex, {"index": -1}),
            (lambda: SharedRun(P, odd, odd), Mismatch, {}),
            (lambda: frames_changed(P, read("Foo"), (9,), read("_")), WrongTree, {"path": ()}),
            (lambda: frames_changed(P, tree, (9,), read("_")), NoPlace, {"path": (9,)}),
            (lambda: effect(sure, read("Foo")), WrongTree, {"path": ()}),
            (lambda: effect(sure, tree), BadCount, {"count": 0}),
            (lambda: effect(sure, tree, (0,), (0,), (9,)), NoPlace, {"path": (9,)}),
            (lambda: works.add_pipeline("X", "nobody"), BadName, {"name": "X"}),
            (lambda: bench.wish("x"), WrongSign, {"at": 0, "expected": "(-0123456789z"}),
            (lambda: bench.edit(9, 9, "x" * 60), BadIndex, {"index": 9}),
            (lambda: bench.exchange((3,), read("Foo")), NoPlace, {"path": (3,)}),
            (lambda: bench.undo(), NothingLeft, {}),
            (lambda: show_sure(P, read("Neg(3)")), WrongTree, {"path": (0,)}),
            (lambda: Inquiry(P, read("Add(Foo, Add(_, Add(_, Add(_, _))))")), WrongTree, {"path": (0,)}),
        ]
        for call, error, fields in calls:
            self.assertEqual(outcome(call), (error, fields))
        works.add_table(LANG)
        works.add_stage(TIDY)
        self.assertEqual(outcome(lambda: works.add_pipeline("tidy", "nobody")), (Repeated, {"name": "tidy"}))

    def test_certificates_never_raise(self):
        for certificate in (Shown("", "", "", [], [], []), Reach("", -1, [], []), Shown("tidy", "_", "_", ["x"], [], []),
                            Shown("tidy", "Foo(", "_", [], [("", "", "")], [((), "", "")]), Reach("tidy", 0, ["_"], [("", "", 0)])):
            self.assertIs(accepts(certificate, TIDY), False)
            self.assertIs(accepts(certificate), False)

    def test_limits_are_told_by_name(self):
        self.assertEqual(outcome(lambda: Bench(P, "x" * 51)), (LimitExceeded, {"limit": "text"}))


if __name__ == "__main__":
    unittest.main()
