"""The examples of README.md."""
import doctest
import pathlib
import unittest

README = pathlib.Path(__file__).resolve().parent.parent / "README.md"


class ReadmeTest(unittest.TestCase):
    def test_the_examples_do_what_they_say(self):
        parser = doctest.DocTestParser()
        # The end of a block of code is no part of what its last example prints.
        text = README.read_text(encoding="utf-8").replace("```", "")
        examples = parser.get_doctest(text, {}, "README.md", str(README), 0)
        self.assertGreater(len(examples.examples), 10)
        failed, _ = doctest.DocTestRunner().run(examples)
        self.assertEqual(failed, 0)


if __name__ == "__main__":
    unittest.main()
