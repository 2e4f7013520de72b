"""The examples of README.md: each row's answer is the one that stands behind it."""

import pathlib
import re
import unittest

README = pathlib.Path(__file__).resolve().parent.parent / "README.md"


def example_rows():
    blocks = re.findall(r"```python\n(.*?)```", README.read_text(encoding="utf-8"), re.S)
    return [row for block in blocks for row in block.split("\n") if row]


class Examples(unittest.TestCase):

    def test_answers(self):
        names, asked = {}, 0
        for row in example_rows():
            code, parted, remark = row.partition("#")
            if parted:
                self.assertEqual(eval(code, names), eval(remark.partition(", since")[0], names), row)
                asked += 1
            else:
                exec(code, names)
        self.assertGreater(asked, 30)


if __name__ == "__main__":
    unittest.main()
