"""Layers written as texts, and read."""

import inspect
import unittest

from overfold.errors import BadLayer
from overfold.layers import layer_text, read_layer
from shelf_help import SIGNS, p

EIGHT = tuple("abcdefgh")
NINE = EIGHT + ("i",)


def chain_rows(path):
    """Folder rows for a path and all that is above it."""
    return ["folder /" + "/".join(path[:count]) + " alone" for count in range(1, len(path) + 1)]


def chain_entries(path):
    return tuple((path[:count], "folder", None) for count in range(1, len(path) + 1))


# Each form of a row, in layers that may stand; what is written, and the layer.
BOTH_WAYS = [
    ("", ((), ())),
    ("folder /a alone", (((p("/a"), "folder", None),), ())),
    ("folder /a over /c", (((p("/a"), "folder", p("/c")),), ())),
    ("folder /a over /", (((p("/a"), "folder", ()),), ())),
    ("folder /a over /b/c/d", (((p("/a"), "folder", p("/b/c/d")),), ())),
    ("folder /a over /a", (((p("/a"), "folder", p("/a")),), ())),
    ("folder /a over /" + "/".join(EIGHT), (((p("/a"), "folder", EIGHT),), ())),
    ("gone /a", (((p("/a"), "gone"),), ())),
    ("file /a 0\ndata =abc", (((p("/a"), "file", 0),), ((None, "abc"),))),
    ("file /a 0\ndata of /c", (((p("/a"), "file", 0),), ((p("/c"), None),))),
    ("file /a 0\ndata of /c =abc", (((p("/a"), "file", 0),), ((p("/c"), "abc"),))),
    ("file /a 0\ndata =", (((p("/a"), "file", 0),), ((None, ""),))),
    ("file /a 0\ndata of /c =", (((p("/a"), "file", 0),), ((p("/c"), ""),))),
    ("data of /c", ((), ((p("/c"), None),))),
    ("data of /c =abc", ((), ((p("/c"), "abc"),))),
    ("data of /" + "/".join(EIGHT) + " =abc", ((), ((EIGHT, "abc"),))),
    ("data of /b\ndata of /a =t\ndata of /a/b", ((), ((p("/b"), None), (p("/a"), "t"), (p("/a/b"), None)))),
    ("file /a 1\nfile /b 1\nfile /c 0\ndata =x\ndata =x",
     (((p("/a"), "file", 1), (p("/b"), "file", 1), (p("/c"), "file", 0)), ((None, "x"), (None, "x")))),
    ("folder /a alone\nfile /a/b 0\ngone /a/c\nfolder /ab over /a\ngone /ab/a\ngone /b\ndata of /a/b =t\ndata of /c",
     (((p("/a"), "folder", None), (p("/a/b"), "file", 0), (p("/a/c"), "gone"), (p("/ab"), "folder", p("/a")),
       (p("/ab/a"), "gone"), (p("/b"), "gone")), ((p("/a/b"), "t"), (p("/c"), None)))),
    ("\n".join(chain_rows(EIGHT)), (chain_entries(EIGHT), ())),
    ("\n".join(chain_rows(EIGHT) + ["gone /" + "/".join(NINE)]), (chain_entries(EIGHT) + ((NINE, "gone"),), ())),
    ("\n".join(chain_rows(EIGHT[:7]) + ["file /" + "/".join(EIGHT) + " 0", "data =t"]),
     (chain_entries(EIGHT[:7]) + ((EIGHT, "file", 0),), ((None, "t"),))),
    ("gone /abcdefgh", (((("abcdefgh",), "gone"),), ())),
]

TEXTS = ["", " ", "  ", "=", "==", " =", " = ", "=a b=", "data =x", "of /a =b", "a  b", " a ", "/", "; ", "0"]


class Interface(unittest.TestCase):
    def test_arguments(self):
        self.assertEqual(list(inspect.signature(layer_text).parameters), ["layer"])
        self.assertEqual(list(inspect.signature(read_layer).parameters), ["text"])


class ThereAndBack(unittest.TestCase):
    def test_each_form_of_a_row(self):
        for text, layer in BOTH_WAYS:
            self.assertEqual(layer_text(layer), text)
            self.assertEqual(read_layer(text), layer)

    def test_kinds_of_what_is_read(self):
        for text, layer in BOTH_WAYS:
            told = read_layer(text)
            self.assertIs(type(told), tuple)
            for part in told:
                self.assertIs(type(part), tuple)
                for row in part:
                    self.assertIs(type(row), tuple)

    def test_texts(self):
        for text in TEXTS + list(SIGNS) + [SIGNS, SIGNS[::-1], "~" * 200, " " * 200, "=" * 200]:
            layer = (((p("/a"), "file", 0), (p("/b"), "file", 1)), ((None, text), (p("/c"), text)))
            written = "file /a 0\nfile /b 1\ndata =" + text + "\ndata of /c =" + text
            self.assertEqual(layer_text(layer), written)
            self.assertEqual(read_layer(written), layer)

    def test_every_number_of_a_file(self):
        pairs = tuple((None, str(number)) for number in range(200))
        names = ["".join([one, two]) for one in "abcdefghij" for two in "abcdefghijklmnopqrst"]
        entries = tuple(((name,), "file", 199 - at) for at, name in enumerate(names))
        rows = ["file /" + name + " " + str(199 - at) for at, name in enumerate(names)]
        text = "\n".join(rows + ["data =" + str(number) for number in range(200)])
        self.assertEqual(layer_text((entries, pairs)), text)
        self.assertEqual(read_layer(text), (entries, pairs))

    def test_a_file_with_an_origin_may_be_in_no_row(self):
        text = "file /a 1\ndata of /b =t\ndata =u\ndata of /c"
        self.assertEqual(read_layer(text)[1], ((p("/b"), "t"), (None, "u"), (p("/c"), None)))

    def test_two_reads_are_alike(self):
        for text, layer in BOTH_WAYS:
            self.assertEqual(read_layer(text), read_layer(text))


class Refusing(unittest.TestCase):
    def bad(self, row, text):
        with self.assertRaises(BadLayer, msg=repr(text[:200])) as caught:
            read_layer(text)
        self.assertEqual(caught.exception.row, row, repr(text[:200]))
        self.assertIs(type(caught.exception.row), int)

    def test_no_such_form(self):
        for row in [
                " ", "folder", "folder ", "folder /a", "folder /a ", "folder /a over", "folder /a over ",
                "folder /a over b", "folder /a over /b/", "folder /a over /b /c", "folder /a over /b ",
                "folder /a  over /b", "folder  /a alone", " folder /a alone", "folder /a alone ", "folder /a none",
                "folder /a alone /b", "folder /a alone over /b", "folder a alone", "folder /a/ alone",
                "folder /A alone", "Folder /a alone", "folder /a Alone", "folder /a OVER /b", "folder / alone",
                "folder / over /", "folder /abcdefghi alone", "folder /a over /abcdefghi", "folder //a alone",
                "folder /a over //", "folder /a over None", "folders /a alone", "folder /a under /b", "folder\t/a alone",
                "file", "file /a", "file /a ", "file /a 0 ", "file /a  0", "file /a a", "file /a -1", "file /a +1",
                "file /a 0 0", "file a 0", "file / 0", "file 0 /a", "file /a 1.", "file /a \u0661", "file /a \u00b2",
                "file /a 1_0", "gone", "gone ", "gone /", "gone a", "gone /a ", "gone  /a", "gone /a /b", "gone /a 0",
                "gone /a1", "gone /a\r", "data", "data ", "data x", "data of", "data of ", "data of /", "data of / =t",
                "data of a", "data of /a ", "data of /a  =t", "data of /a=t", "data of /a t", "data of /a/ =t",
                "data of  =t", "data of =t", "data  =t", " data =t", "Data =t", "data=t", "data / =t", "data /a =t",
                "data of /a of /b", "data of /b/abcdefghi", "what /a", "alone", "0", "/a"]:
            self.bad(0, row)
            self.bad(1, "gone /a\n" + row)
            self.bad(1, "data of /z\n" + row)
            self.bad(0, row + "\ngone /zz")

    def test_texts_that_are_none(self):
        for text in ["a%", "%", "a" * 201, "\t", "a\x7f", "\x1f", "\u00e9", "a\r", "\x0b", "\u2028"]:
            self.bad(0, "data of /a =" + text)
            self.bad(1, "file /a 0\ndata =" + text)

    def test_an_empty_row(self):
        self.bad(0, "\n")
        self.bad(0, "\ngone /a")
        self.bad(1, "gone /a\n")
        self.bad(1, "gone /a\n\ngone /b")
        self.bad(2, "gone /a\ngone /b\n")

    def test_numbers(self):
        rest = "".join("\ndata of /" + one + two for one in "abcdefghij" for two in "abcdefghijklmnopqrst")
        for number in ["0", "1", "10", "99", "100", "199"]:
            self.assertEqual(read_layer("file /a " + number + rest)[0], ((p("/a"), "file", int(number)),))
        for number in ["00", "01", "000", "0199", "200", "201", "300", "999", "1000", "9" * 5000]:
            self.bad(0, "file /a " + number + rest)

    def test_names_too_many(self):
        self.bad(8, "\n".join(chain_rows(EIGHT) + ["folder /" + "/".join(NINE) + " alone"]))
        self.bad(8, "\n".join(chain_rows(EIGHT) + ["file /" + "/".join(NINE) + " 0", "data =t"]))
        self.bad(0, "folder /a over /" + "/".join(NINE))
        self.bad(0, "data of /" + "/".join(NINE))
        self.bad(0, "data of /" + "/".join(NINE) + " =t")
        self.bad(9, "\n".join(chain_rows(EIGHT) + ["gone /" + "/".join(NINE), "gone /" + "/".join(NINE + ("j",))]))

    def test_a_gone_row_of_nine_names_needs_its_parent(self):
        self.bad(0, "gone /" + "/".join(NINE))
        self.bad(7, "\n".join(chain_rows(EIGHT[:7]) + ["gone /" + "/".join(NINE)]))

    def test_not_rising(self):
        self.bad(1, "gone /b\ngone /a")
        self.bad(1, "gone /a\ngone /a")
        self.bad(1, "folder /a alone\ngone /a")
        self.bad(1, "folder /a alone\nfolder /a alone")
        self.bad(2, "folder /a alone\ngone /ab\ngone /a/b")
        self.bad(3, "folder /a alone\nfolder /a/b alone\ngone /a/b/c\ngone /a/b/b")
        self.bad(2, "folder /a alone\nfolder /b alone\ngone /a/c")
        self.bad(1, "gone /aa\ngone /a")

    def test_rising_is_by_names_not_by_texts(self):
        text = "folder /a alone\ngone /a/z\ngone /aa"
        self.assertEqual([row[0] for row in read_layer(text)[0]], [p("/a"), p("/a/z"), p("/aa")])

    def test_without_its_parents_row(self):
        self.bad(0, "gone /a/b")
        self.bad(0, "folder /a/b alone")
        self.bad(0, "file /a/b 0\ndata =t")
        self.bad(1, "folder /a alone\ngone /a/b/c")
        self.bad(1, "folder /a alone\ngone /b/c")
        self.bad(2, "folder /a alone\nfolder /b alone\ngone /c/a")

    def test_a_parents_row_that_is_no_folders(self):
        self.bad(1, "gone /a\ngone /a/b")
        self.bad(1, "file /a 0\ngone /a/b\ndata =t")
        self.bad(1, "file /a 0\nfolder /a/b alone\ndata =t")

    def test_an_entry_behind_a_data_row(self):
        self.bad(1, "data of /a\ngone /b")
        self.bad(2, "file /a 0\ndata =t\nfile /b 0")
        self.bad(2, "gone /a\ndata of /a =t\nfolder /b alone")
        self.bad(1, "data of /a\nfolder /b alone\ndata of /c")

    def test_one_origin_twice(self):
        self.bad(1, "data of /a\ndata of /a")
        self.bad(2, "data of /a =t\ndata of /b\ndata of /a")
        self.bad(2, "file /a 0\ndata of /a\ndata of /a =u")
        self.bad(2, "data of /b\ndata of /a/b\ndata of /a/b =")

    def test_rows_too_many(self):
        names = sorted(one + two for one in "abcdefghijklmnopqrst" for two in "abcdefghijklmnopqrst")
        rows = ["gone /" + name for name in names]
        self.assertEqual(len(read_layer("\n".join(rows))[0]), 400)
        self.bad(400, "\n".join(rows + ["gone /zz"]))
        self.bad(400, "\n".join(rows + ["gone /zz", "nothing"]))
        self.bad(400, "\n".join(rows + ["folder /zz alone"]))

    def test_files_too_many(self):
        names = [one + two for one in "abcdefghij" for two in "abcdefghijklmnopqrst"]
        rows = ["data of /" + name for name in names]
        self.assertEqual(len(read_layer("\n".join(rows))[1]), 200)
        self.bad(200, "\n".join(rows + ["data of /zz"]))
        self.bad(200, "\n".join(rows + ["data =t"]))
        self.bad(201, "\n".join(["gone /a"] + rows + ["data of /zz =t"]))

    def test_rows_and_files_are_counted_apart(self):
        rows = ["gone /" + one + two for one in "abcdefghijklmnopqrst" for two in "abcdefghijklmnopqrst"]
        files = ["data of /" + one + two for one in "abcdefghij" for two in "abcdefghijklmnopqrst"]
        told = read_layer("\n".join(rows + files))
        self.assertEqual((len(told[0]), len(told[1])), (400, 200))
        self.bad(600, "\n".join(rows + files + ["data of /zz"]))

    def test_a_file_row_without_a_data_row(self):
        self.bad(1, "file /a 0")
        self.bad(2, "file /a 1\ndata of /b")
        self.bad(3, "file /a 0\nfile /b 2\ndata =t")
        self.bad(4, "file /a 0\nfile /b 5\ndata =t\ndata of /c")

    def test_a_file_without_an_origin_in_no_row(self):
        self.bad(1, "data =t")
        self.bad(3, "file /a 0\ndata =t\ndata =u")
        self.bad(3, "file /a 1\ndata =t\ndata =u")
        self.bad(2, "gone /a\ndata =")

    def test_the_first_bad_row_is_told(self):
        self.bad(0, "gone /a/b\nnothing\ngone /a")
        self.bad(1, "gone /b\ngone /a\nnothing")
        self.bad(1, "file /a 7\nnothing\ndata =t")
        self.bad(2, "file /a 7\ndata =t\ndata of /")
        self.bad(1, "data =t\ngone /a")

    def test_a_refused_read_leaves_nothing_behind(self):
        self.bad(1, "data of /a\ndata of /a")
        self.assertEqual(read_layer("data of /a"), ((), ((p("/a"), None),)))


if __name__ == "__main__":
    unittest.main()
