"""What README.md says under "Using it" is what is told."""

import pathlib
import re
import unittest

README = pathlib.Path(__file__).resolve().parent.parent / "README.md"


class UsingIt(unittest.TestCase):
    def test_each_line(self):
        known = {}
        asked = 0
        for code in re.findall(r"```python\n(.*?)```", README.read_text(encoding="utf-8"), re.S):
            for line in code.split("\n"):
                ask, _, told = line.partition("  # ")
                if not told:
                    exec(line, known)
                    continue
                asked += 1
                names, assigned, right = ask.rpartition(" = ")
                exec("answer = " + right + "\n" + (names + " = answer" if assigned else ""), known)
                self.assertEqual(repr(known["answer"]), repr(eval(told, known)), line)
        self.assertGreater(asked, 10)


if __name__ == "__main__":
    unittest.main()
