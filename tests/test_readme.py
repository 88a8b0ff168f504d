"""What README.md shows is so: each row with a remark behind it tells what the remark says."""

import pathlib
import re
import unittest

README = pathlib.Path(__file__).resolve().parent.parent / "README.md"


class Shown(unittest.TestCase):
    def test_rows_with_a_remark(self):
        told, looked_at = {}, 0
        for block in re.findall(r"```python\n(.*?)```", README.read_text(encoding="utf-8"), re.DOTALL):
            for row in block.split("\n"):
                shown = re.fullmatch(r"(?P<row>.*?\S) +# (?P<remark>.*?)(: [a-z].*)?", row)
                if shown and not re.match(r"[a-z]+ = ", row):
                    self.assertEqual(eval(shown["remark"], told), eval(shown["row"], told), row)
                    looked_at += 1
                elif shown:
                    exec(shown["row"], told)
                    self.assertEqual(eval(shown["remark"], told), told[row.split(" ")[0]], row)
                else:
                    exec(row, told)
        self.assertLess(40, looked_at)


if __name__ == "__main__":
    unittest.main()
