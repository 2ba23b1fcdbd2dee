"""The examples of README.md."""

import doctest
import os
import unittest

README = os.path.join(os.path.dirname(os.path.dirname(os.path.abspath(__file__))), "README.md")


class ReadmeTest(unittest.TestCase):

    def test_examples(self):
        with open(README, encoding="utf-8") as file:
            # The sign that ends a block of examples there would be taken for a part of the last answer.
            text = file.read().replace("```", "")
        examples = doctest.DocTestParser().get_doctest(text, {}, "README.md", README, 0)
        told = []
        results = doctest.DocTestRunner(verbose=False).run(examples, out=told.append)
        self.assertEqual((results.failed, told), (0, []))
        self.assertGreater(results.attempted, 10)


if __name__ == "__main__":
    unittest.main()
