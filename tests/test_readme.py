"""The examples of README.md, as they stand there."""

import doctest
import pathlib
import unittest

README = pathlib.Path(__file__).parent.parent / "README.md"


class Readme(unittest.TestCase):
    def test_examples(self):
        text = README.read_text(encoding="ascii").replace("```", "")
        examples = doctest.DocTestParser().get_doctest(text, {}, "README.md", str(README), 0)
        self.assertGreater(len(examples.examples), 20)
        told = []
        runner = doctest.DocTestRunner(verbose=False)
        runner.run(examples, out=told.append)
        self.assertEqual((runner.failures, "".join(told)), (0, ""))


if __name__ == "__main__":
    unittest.main()
