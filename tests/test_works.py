import unittest

from helpers import LANG, ODD, Raises, read
from treeworks.errors import (
    BadBlock, BadCount, BadLine, BadName, BadRow, BadStage, BadState, BadTable, Repeated, Uncovered, Unknown,
)
from treeworks.pipelines import Pipeline
from treeworks.stages import Stage
from treeworks.tables import Table
from treeworks.works import Works

T_TEXT = "table t\nK: S K = s1\nK: Z = z"
CUT_TEXT = "stage cut: t -> t\nstate a: K -> K\nS(x:S(_)) => b(x)\nS(x) => S(a(x))\nZ => Z\nstate b: K -> K\nS(x) => S(a(x))\n_ => Z"
TEXT = f"{T_TEXT}\n{CUT_TEXT}\npipeline once = cut\npipeline twice = cut, cut"
T = Table.read(T_TEXT)
CUT = Stage.read(CUT_TEXT, T)
UP = Stage("up", LANG, ODD, ("a", "Expr", "K", ["_ => End"]))
SAME = Stage("same", ODD, ODD, ("a", "K", "K", ["_ => End"]))


def filled():
    works = Works()
    for table in (LANG, ODD, T):
        works.add_table(table)
    for stage in (UP, SAME):
        works.add_stage(stage)
    works.add_pipeline("all", "up", "same", "same")
    return works


class AddingTest(unittest.TestCase, Raises):
    def test_empty(self):
        works = Works()
        self.assertEqual((list(works), works.script()), ([], ""))

    def test_names_in_order(self):
        works = filled()
        self.assertEqual(list(works), ["lang", "odd", "t", "up", "same", "all"])
        self.assertEqual(works.table_named("odd"), ODD)
        self.assertEqual(works.stage_named("up").description, UP.description)
        self.assertEqual(works.pipeline_named("all"), Pipeline(UP, SAME, SAME))

    def test_additions_return_none(self):
        works = Works()
        self.assertIsNone(works.add_table(T))
        self.assertIsNone(works.add_stage(CUT))
        self.assertIsNone(works.add_pipeline("p", "cut"))

    def test_unknown_names(self):
        works = filled()
        for name in ("", "x", "up", "all"):
            self.raises(Unknown, works.table_named, name, name=name)
        for name in ("", "x", "lang", "all"):
            self.raises(Unknown, works.stage_named, name, name=name)
        for name in ("", "x", "lang", "up"):
            self.raises(Unknown, works.pipeline_named, name, name=name)

    def fails(self, works, error, call, *args, **attributes):
        before = (list(works), works.script())
        self.raises(error, call, *args, **attributes)
        self.assertEqual((list(works), works.script()), before)

    def test_repeated_names(self):
        works = filled()
        self.fails(works, Repeated, works.add_table, LANG, name="lang")
        self.fails(works, Repeated, works.add_table, Table("up", ("K", "Z", (), "z")), name="up")
        self.fails(works, Repeated, works.add_table, Table("all", ("K", "Z", (), "z")), name="all")
        self.fails(works, Repeated, works.add_stage, UP, name="up")
        self.fails(works, Repeated, works.add_stage, Stage("odd", T, T, ("a", "K", "K", ["_ => Z"])), name="odd")
        for name in ("all", "t", "same"):
            self.fails(works, Repeated, works.add_pipeline, name, "up", name=name)
        # A name that is there comes before all else that can be wrong.
        stranger = Table("strange", ("K", "Z", (), "z"))
        self.fails(works, Repeated, works.add_stage, Stage("all", stranger, stranger, ("a", "K", "K", ["_ => Z"])), name="all")
        self.fails(works, Repeated, works.add_pipeline, "all", "nobody", name="all")

    def test_names_of_pipelines(self):
        works = filled()
        for name in ("", "All", "digit", "1a", "abcdefghi", "a.b", "a b"):
            self.fails(works, BadName, works.add_pipeline, name, "nobody", name=name)

    def test_stages_without_their_tables(self):
        works = Works()
        works.add_table(ODD)
        self.fails(works, Unknown, works.add_stage, UP, name="lang")
        self.fails(works, Unknown, works.add_stage, CUT, name="t")
        works.add_stage(SAME)
        works = Works()
        works.add_table(LANG)
        self.fails(works, Unknown, works.add_stage, UP, name="odd")
        works.add_table(Table("odd", ("K", "End", (), "e")))
        self.fails(works, Unknown, works.add_stage, UP, name="odd")
        self.fails(works, Unknown, works.add_stage, SAME, name="odd")

    def test_pipelines_without_their_stages(self):
        works = filled()
        self.fails(works, Unknown, works.add_pipeline, "p", "up", "nobody", "none", name="nobody")
        self.fails(works, Unknown, works.add_pipeline, "p", "lang", name="lang")
        self.fails(works, Unknown, works.add_pipeline, "p", "all", name="all")
        self.fails(works, Unknown, works.add_pipeline, "p", "up", "up", "nobody", name="nobody")
        self.fails(works, BadStage, works.add_pipeline, "p", "up", "up", index=1)
        self.fails(works, BadCount, works.add_pipeline, "p", count=0)
        self.fails(works, BadCount, works.add_pipeline, "p", *["same"] * 5, count=5)
        works.add_pipeline("p", *["same"] * 4)

    def test_tables_and_stages_may_be_equal_to_added_ones(self):
        works = Works()
        works.add_table(Table.read(LANG.description))
        works.add_table(ODD)
        works.add_stage(UP)
        self.assertEqual(list(works), ["lang", "odd", "up"])

    def test_lists_are_new(self):
        works = filled()
        list(works).clear()
        self.assertEqual(len(list(works)), 6)


class ScriptTest(unittest.TestCase, Raises):
    def test_example(self):
        works = Works.read(TEXT)
        self.assertEqual(
            [list(works), works.pipeline_named("once").translated("sssz"), works.pipeline_named("twice").translated("sssssz"),
             works.script() == TEXT],
            [["t", "cut", "once", "twice"], "ssz", "ssz", True],
        )

    def test_written_and_read_back(self):
        works = filled()
        script = works.script()
        self.assertEqual(script, "\n".join([LANG.description, ODD.description, T_TEXT, UP.description, SAME.description,
                                            "pipeline all = up, same, same"]))
        again = Works.read(script)
        self.assertEqual((again.script(), list(again)), (script, list(works)))
        self.assertEqual(again.pipeline_named("all"), works.pipeline_named("all"))
        self.assertEqual(again.pipeline_named("all")(read("Nil")).term, "End")

    def test_the_empty_script(self):
        works = Works.read("")
        self.assertEqual((list(works), works.script()), ([], ""))
        self.assertIsInstance(works, Works)

    def test_lines_before_the_first_block(self):
        for script in ("\n", " ", "x", "\n" + TEXT, "table", "table\n" + TEXT, "Table t", " table t", "K: S K = s1\n" + TEXT, "stage\n", "pipeline",
                       "state a: K -> K\n" + TEXT):
            self.raises(BadLine, Works.read, script, line=1)

    def test_bad_lines_have_the_number_in_the_script(self):
        for script, line in (
            ("table ", 1), ("table t u", 1), ("table t\n", 2), (T_TEXT + "\n", 4), (T_TEXT + "\nbad\nbad", 4),
            (f"{T_TEXT}\nstage cut", 4), (f"{T_TEXT}\nstage cut: t -> t\n_ => Z", 5), (f"{T_TEXT}\n{CUT_TEXT}\nbad", 12),
            (f"{T_TEXT}\n{CUT_TEXT}\n", 12), (f"{T_TEXT}\n{CUT_TEXT}\npipeline p =", 12), (f"{T_TEXT}\n{CUT_TEXT}\npipeline p = ", 12),
            (f"{T_TEXT}\n{CUT_TEXT}\npipeline p cut", 12), (f"{T_TEXT}\n{CUT_TEXT}\npipeline p = cut cut", 12),
            (f"{T_TEXT}\n{CUT_TEXT}\npipeline p = cut,  cut", 12), (f"{T_TEXT}\n{CUT_TEXT}\npipeline  p = cut", 12),
            (f"{T_TEXT}\n{CUT_TEXT}\npipeline p = cut, cut cut", 12), (f"{T_TEXT}\n{CUT_TEXT}\npipeline p = cut\n", 13),
            (f"{T_TEXT}\n{CUT_TEXT}\npipeline p = cut\nx\ny", 13), (f"{T_TEXT}\n{CUT_TEXT}\npipeline p = cut cut\nx\ny", 12),
            (f"{T_TEXT}\n{CUT_TEXT}\npipeline p := cut", 12), (f"{T_TEXT}\n{CUT_TEXT}\npipeline p = cut ", 12), (TEXT + "\n", 14),
            (TEXT + "\ntable u\nK: Z z", 15), (f"{T_TEXT}\n{CUT_TEXT}\npipeline P = nobody\nx", 13), ("table T\nbad", 2),
            ("pipeline p = q q\ntable", 1), ("stage S: x -> y\nbad", 2), ("table t u\nstage", 1),
        ):
            self.raises(BadLine, Works.read, script, line=line)

    def test_bad_blocks(self):
        for script, line, cause, attributes in (
            ("table T\nK: Z = z", 1, BadName, {"name": "T"}), ("table t", 1, BadCount, {"count": 0}),
            ("table t\nK: z = z", 1, BadTable, {"row": 0, "reason": "name"}), (TEXT + "\ntable t\nK: Z = z", 14, Repeated, {"name": "t"}),
            (TEXT + "\ntable once\nK: Z = z", 14, Repeated, {"name": "once"}), (CUT_TEXT, 1, Unknown, {"name": "t"}),
            (CUT_TEXT + "\n" + T_TEXT, 1, Unknown, {"name": "t"}), (f"{T_TEXT}\nstage s: t -> u", 4, Unknown, {"name": "u"}),
            (f"{T_TEXT}\nstage s: t -> t", 4, BadCount, {"count": 0}), (f"{T_TEXT}\n{CUT_TEXT}\n{CUT_TEXT}", 12, Repeated, {"name": "cut"}),
            (f"{T_TEXT}\nstage s: t -> t\nstate a: K -> K", 4, BadState, {"index": 0, "reason": "rows"}),
            (f"{T_TEXT}\nstage s: t -> t\nstate a: K -> K\nZ => Q", 4, BadRow, {"state": "a", "row": 0, "reason": "template"}),
            (f"{T_TEXT}\nstage s: t -> t\nstate a: K -> K\n => ", 4, BadRow, {"state": "a", "row": 0, "reason": "text"}),
            (TEXT + "\npipeline P = cut", 14, BadName, {"name": "P"}), (TEXT + "\npipeline once = cut", 14, Repeated, {"name": "once"}),
            (TEXT + "\npipeline p = cat, cut", 14, Unknown, {"name": "cat"}), (TEXT + "\npipeline p = cut,", 14, Unknown, {"name": "cut,"}),
            (TEXT + "\npipeline p = cut, cut,", 14, Unknown, {"name": "cut,"}), (TEXT + "\npipeline p = ,, cut", 14, Unknown, {"name": ","}),
            (TEXT + "\npipeline p = cut, cut, cut, cut, cut", 14, BadCount, {"count": 5}), ("pipeline p = q", 1, Unknown, {"name": "q"}),
            (TEXT + "\npipeline p = t", 14, Unknown, {"name": "t"}), (TEXT + "\npipeline p = once", 14, Unknown, {"name": "once"}),
        ):
            error = self.raises(BadBlock, Works.read, script, line=line)
            self.assertIs(error.__cause__.__class__, cause)
            self.assertEqual(vars(error.__cause__), attributes)

    def test_other_causes(self):
        error = self.raises(BadBlock, Works.read, f"{T_TEXT}\nstage s: t -> t\nstate a: K -> K\nZ => Z", line=4)
        self.assertIsInstance(error.__cause__, Uncovered)
        text = f"{LANG.description}\n{ODD.description}\n{UP.description}\npipeline p = up, up"
        error = self.raises(BadBlock, Works.read, text, line=16)
        self.assertEqual((error.__cause__.__class__, error.__cause__.index), (BadStage, 1))

    def test_blocks_are_read_in_order(self):
        # A fault in an earlier block comes before lines without their shape in a later one, and the other way round.
        self.raises(BadBlock, Works.read, "table T\nK: Z = z\ntable u v", line=1)
        self.raises(BadLine, Works.read, "table u v\ntable T\nK: Z = z", line=1)
        self.raises(BadBlock, Works.read, f"{T_TEXT}\npipeline p = cut\n{CUT_TEXT}", line=4)
        self.raises(BadLine, Works.read, f"{T_TEXT}\npipeline p = cut\nx\n{CUT_TEXT}", line=5)

    def test_tables_of_stages_are_those_before_it(self):
        text = "table a\nK: Z = z\ntable b\nK: Y = y\nstage s: a -> b\nstate q: K -> K\nZ => Y\nstage r: b -> a\nstate q: K -> K\n_ => Z\npipeline p = s, r, s"
        works = Works.read(text)
        self.assertEqual((works.script(), works.pipeline_named("p").translated("z")), (text, "y"))


if __name__ == "__main__":
    unittest.main()
