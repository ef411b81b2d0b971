"""What README.md shows."""

import unittest
from pathlib import Path

from tests.helper import runs_as_shown

README = Path(__file__).resolve().parent.parent / "README.md"


class Readme(unittest.TestCase):
    def test_its_examples(self):
        runs_as_shown(self, README.read_text(encoding="utf-8").replace("```", ""))


if __name__ == "__main__":
    unittest.main()
