"""Each call of the later modules at the bounds that the document names: it answers there."""

import unittest

from bounds import LOADS_2000, TWENTY, line_pipeline, load_pipeline, word_pipeline
from helpers import Raises, read
from test_bounds import LARGE, SURE, deep, forked
from test_groves import FORK, chain
from treeworks.bench import Bench
from treeworks.changes import Change
from treeworks.checker import accepts
from treeworks.groves import Grove
from treeworks.loads import copies, copying, growth, spread, spreading
from treeworks.making import show_reach, show_sure
from treeworks.patches import Patch
from treeworks.reaches import frames_changed, ranks, reach, reaching, ring
from treeworks.shared import SharedRun, pack, unpack
from treeworks.sure import Sure
from treeworks.texts import text_of


class BoundsTest(unittest.TestCase, Raises):
    def test_30_lots_and_four_stages(self):
        self.assertEqual((len(ranks(LARGE)), ring(LARGE), reach(LARGE)), (870, None, max(rank for _, _, rank in ranks(LARGE))))
        self.assertIsNotNone(reaching(LARGE, reach(LARGE)))
        self.assertEqual(frames_changed(LARGE, deep(59, read("B")), (0,), read("A")), 0)
        for certificate in (show_reach(LARGE), show_sure(LARGE, read("P(S(S(_)), P(_, _))"))):
            self.assertTrue(accepts(certificate, *LARGE))
        self.assertEqual((copies(LARGE), growth(LARGE), growth(LARGE, digits=True), copying(LARGE, 0)), (0, None, None, None))
        self.assertEqual(spread(LARGE), 1)
        self.assertIsNotNone(spreading(LARGE, 1))

    def test_trees_of_2000_names(self):
        tree = forked(2000)
        grove = Grove(LARGE.source)
        number = grove.put(tree)
        run = SharedRun(LARGE, grove, grove)
        result = run(number)
        self.assertEqual(grove.unfolded(result), SURE.walk(tree))
        change = Change(grove, number, result)
        self.assertGreater(change.count, 0)
        self.assertEqual(unpack(Grove(LARGE.source), "N", pack(grove, number)), len(grove.needed_for(number)) - 1)

    def test_20_words(self):
        pipeline = word_pipeline(*TWENTY)
        for certificate in (show_reach(pipeline), show_sure(pipeline, read("P(D(_, 3, _), P(_, _))"))):
            self.assertTrue(accepts(certificate, *pipeline))
        self.assertEqual((reach(pipeline), growth(pipeline)), (0, None))
        grove = Grove(pipeline.source)
        run = SharedRun(pipeline, grove, grove)
        tree = read("P(P(D(1, 2, Z), Z), D(3, 4, P(Z, Z)))")
        self.assertEqual(grove.unfolded(run(grove.put(tree))), Sure(pipeline).walk(tree))

    def test_lines_of_400_names(self):
        pipeline = line_pipeline("P(P(S(b(x)), S(b(x))), b(x))")
        self.assertEqual(max(Sure(pipeline).sure_line(pipeline.start, lot).size for lot in range(1)), 400)
        self.assertEqual((spread(pipeline), copies(pipeline), growth(pipeline), reach(pipeline)), (0, 0, None, 0))
        # The results have more than 60 levels.
        self.assertFalse(accepts(show_reach(pipeline), *pipeline))

    def test_2000_loads(self):
        pipeline = load_pipeline(LOADS_2000)
        self.assertGreater(spread(pipeline), 10)
        self.assertIsNotNone(spreading(pipeline, 10))
        self.assertEqual((copies(pipeline), copying(pipeline, 10), growth(pipeline)), (0, None, None))

    def test_packs_of_4000_integers(self):
        grove, other = Grove(FORK), Grove(FORK)
        number = chain(grove, 1998)
        top = grove.exchanged(grove.exchanged(grove.put(read("P(Z, Z)")), (0,), number), (1,), number)
        row = pack(grove, top)
        self.assertEqual((len(row), unpack(other, "K", row), other.entries), (4000, 1999, 2000))
        self.assertEqual(pack(other, 1999), row)
        self.assertEqual(len(grove.window(top, 1900, 2300)), 400)

    def test_50_characters(self):
        bench = Bench(LARGE, "(" * 12 + "a" + "b)" * 12 + "s" * 13)
        self.assertEqual((len(bench.text), bench.document.right), (50, False))
        for at in range(13):
            bench.edit(49 - at, 1)
        self.assertTrue(bench.document.right)
        bench.edit(0, 0, "s" * 13)
        self.assertEqual((len(bench.text), bench.document.right), (50, True))
        self.assertEqual(bench.output, text_of(LARGE.target, LARGE(bench.document.skeleton)))
        bench.replay(["edit 13 1 ?", "undo"])
        for _ in range(bench.deeds):
            bench.undo()
        self.assertEqual(bench.moment, 30)

    def test_large_patches(self):
        text = "ab" * 8000
        patch = Patch(*[(at, at + 1, "xyz") for at in range(0, 16000, 2)])
        back = patch.back(text)
        self.assertEqual(back(patch(text)), text)
        self.assertEqual((patch + back)(text), text)


if __name__ == "__main__":
    unittest.main()
