"""The session in README.md."""

import doctest
import pathlib
import unittest


class Readme(unittest.TestCase):
    def test_session(self):
        text = (pathlib.Path(__file__).resolve().parent.parent / "README.md").read_text()
        session = "\n".join(text.split("```")[1:6:2])
        test = doctest.DocTestParser().get_doctest(session, {}, "README", None, 0)
        result = doctest.DocTestRunner(verbose=False).run(test)
        self.assertEqual(result.failed, 0)
        self.assertGreater(result.attempted, 13)


if __name__ == "__main__":
    unittest.main()
