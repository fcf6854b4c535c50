"""The examples of the interface, as they stand in the document."""

import unittest
from pathlib import Path

BLOCKS = (Path(__file__).parent / "examples.txt").read_text(encoding="utf-8").strip().split("\n\n")


def run_example(test, code, wanted, names):
    """Run a line; what it gives, or raises, must be what is wanted (None: nothing is)."""
    if wanted is None:
        exec(code, names)
        return
    if wanted.startswith("raises "):
        with test.assertRaises(ValueError) as caught:
            eval(code, names)
        test.assertEqual(type(caught.exception).__name__ + "()", wanted[len("raises "):])
        return
    test.assertEqual(repr(eval(code, names)), wanted)


class Examples(unittest.TestCase):
    def test_examples(self):
        names = {}
        count = 0
        for block in BLOCKS:
            lines = block.split("\n")
            for at, line in enumerate(lines):
                if not line.startswith(">>> "):
                    continue
                behind = lines[at + 1] if at + 1 < len(lines) else ">>> "
                wanted = None if behind.startswith(">>> ") else behind
                with self.subTest(line=line):
                    run_example(self, line[4:], wanted, names)
                count += 1
        self.assertEqual(count, 65)


if __name__ == "__main__":
    unittest.main()
