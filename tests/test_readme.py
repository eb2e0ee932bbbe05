"""What README.md tells by examples: behind a call stands, as a comment, what it tells."""

import os
import re
import unittest

README = os.path.join(os.path.dirname(os.path.dirname(os.path.abspath(__file__))), "README.md")


def blocks():
    with open(README, encoding="utf-8") as file:
        return re.findall(r"```python\n(.*?)```", file.read(), re.S)


class Examples(unittest.TestCase):
    def test_each_tells_what_stands_behind_it(self):
        names = {}
        for block in blocks():
            exec(block, names)
            for line in block.splitlines():
                call, sign, told = line.partition("  #")
                # What stands within a `try` has been run with its block.
                if sign and not call.startswith(" "):
                    with self.subTest(call=call.strip()):
                        self.assertEqual(repr(eval(call, names)), told.strip())


if __name__ == "__main__":
    unittest.main()
