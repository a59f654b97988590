import os
import re
import unittest

README = os.path.join(os.path.dirname(os.path.dirname(os.path.abspath(__file__))), "README.md")


def examples():
    """Pairs (code, comment) of the examples' lines, in their order."""
    with open(README, encoding="utf-8") as file:
        blocks = re.findall(r"```python\n(.*?)```", file.read(), re.S)
    for line in "".join(blocks).split("\n"):
        code, sign, comment = line.partition("  #")
        if code and not code.startswith("#"):
            yield code.strip(), comment.strip()


def told_by(code, names):
    """What a line tells, as it's written; "refused: CLASS" where it's refused."""
    try:
        compile(code, "README", "eval")
    except SyntaxError:
        exec(code, names)
        target = code.split("=")[0]
        return repr(eval(target, names)) if "=" in code and not code.startswith("from") else ""
    try:
        return repr(eval(code, names))
    except (ValueError, LookupError) as refusal:
        return f"refused: {type(refusal).__name__}"


class Readme(unittest.TestCase):
    def test_examples_tell_what_is_written(self):
        names = {}
        checked = 0
        for code, comment in examples():
            told = told_by(code, names)
            # What begins with another small letter is said of the line, not told by it.
            if comment.startswith("refused") or not comment[:1].islower() and comment:
                self.assertTrue(comment.replace('"', "'").startswith(told), f"{code}: {told}")
                checked += 1
            else:
                self.assertFalse(told.startswith("refused"), code)
        self.assertGreater(checked, 50)


if __name__ == "__main__":
    unittest.main()
