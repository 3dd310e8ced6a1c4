import doctest
import pathlib
import unittest

README = pathlib.Path(__file__).resolve().parent.parent / "README.md"


class ReadmeTest(unittest.TestCase):
    def test_examples(self):
        # A fence is no part of what an example prints.
        text = README.read_text(encoding="utf-8").replace("```", "")
        examples = doctest.DocTestParser().get_doctest(text, {}, "README.md", str(README), 0)
        results = doctest.DocTestRunner().run(examples)
        self.assertEqual(0, results.failed)
        self.assertGreater(results.attempted, 10)


if __name__ == "__main__":
    unittest.main()
