import itertools
import random
import unittest

from comesback import texts as texts_file
from comesback.errors import NoText, TooMany
from comesback.texts import read_setting, setting_text

from tests.model import NAMES, all_settings, kinds_of, setting_with, some_setting, strange_values
from tests.refusals import SETTING_KIND, check_calls, refuse_in_order

# The text of the document, and its setting.
TEXT = "work 2\nroom 4\npatience 1\ntries 2\nwait 1\nway oldest\ndead yes\ntokens none\nfuse 3 1\n"
SETTING = (2, 4, 1, 2, 1, "oldest", True, None, (3, 1))
OTHER_TEXT = "work 3\nroom 5\npatience 4\ntries 3\nwait 2\nway newest\ndead no\ntokens 0\nfuse none\n"
OTHER_SETTING = (3, 5, 4, 3, 2, "newest", False, 0, None)
NO_TEXTS = tuple(strange_values()) + (
    TEXT.encode(), [TEXT], (TEXT,), {TEXT: TEXT}, TEXT.split("\n"), SETTING, list(SETTING), TooMany(3), NoText, str,
)


def with_line(place, line, text=TEXT):
    lines = text.split("\n")
    return "\n".join(lines[:place] + [line] + lines[place + 1:])


class Texts(unittest.TestCase):
    def refused(self, text):
        with self.assertRaises(NoText) as caught:
            read_setting(text)
        self.assertIs(type(caught.exception), NoText)

    def test_the_text_of_the_document(self):
        self.assertEqual(kinds_of(setting_text(SETTING)), (str, TEXT))
        self.assertEqual(kinds_of(read_setting(TEXT)), kinds_of(SETTING))

    def test_another_text(self):
        self.assertEqual(kinds_of(setting_text(OTHER_SETTING)), (str, OTHER_TEXT))
        self.assertEqual(kinds_of(read_setting(OTHER_TEXT)), kinds_of(OTHER_SETTING))

    def test_each_part(self):
        for place, name, values in (
            (0, "work", (1, 2, 3)), (1, "room", (1, 2, 3, 4, 5)), (2, "patience", (1, 2, 3, 4)), (3, "tries", (1, 2, 3)),
            (4, "wait", (1, 2, 3)), (7, "tokens", (0, 1, 2, 3, 4)),
        ):
            for value in values:
                self.part(place, f"{name} {value}", value)
        self.part(5, "way oldest", "oldest")
        self.part(5, "way newest", "newest")
        self.part(6, "dead yes", True)
        self.part(6, "dead no", False)
        self.part(7, "tokens none", None)
        self.part(8, "fuse none", None)
        for many, rest in itertools.product((1, 2, 3), (1, 2, 3)):
            self.part(8, f"fuse {many} {rest}", (many, rest))

    def part(self, place, line, value):
        setting = SETTING[:place] + (value,) + SETTING[place + 1:]
        self.assertEqual(setting_text(setting), with_line(place, line))
        self.assertEqual(kinds_of(read_setting(with_line(place, line))), kinds_of(setting))

    def test_all_settings_there_and_back(self):
        dice = random.Random(110)
        seen = set()
        for setting in itertools.chain(itertools.islice(all_settings(), 0, None, 97), map(some_setting, [dice] * 500)):
            text = setting_text(setting)
            self.assertEqual(text.count("\n"), 9)
            self.assertEqual([line.split(" ")[0] for line in text.split("\n")[:-1]], list(NAMES))
            self.assertEqual(kinds_of(read_setting(text)), kinds_of(setting))
            seen.add(text)
        self.assertGreater(len(seen), 900)

    def test_a_line_less(self):
        for text in (TEXT, OTHER_TEXT):
            lines = text.split("\n")[:-1]
            for place in range(9):
                self.refused("".join(line + "\n" for line in lines[:place] + lines[place + 1:]))
                self.refused(with_line(place, "", text))
            for many in range(9):
                self.refused("".join(line + "\n" for line in lines[:many]))

    def test_a_line_twice(self):
        for text in (TEXT, OTHER_TEXT):
            lines = text.split("\n")[:-1]
            for place in range(9):
                self.refused("".join(line + "\n" for line in lines[:place] + [lines[place]] + lines[place:]))
                self.refused(text + lines[place] + "\n")
                self.refused(text + lines[place])
                self.refused(lines[place] + "\n" + text)
            self.refused(text + text)

    def test_lines_in_another_place(self):
        lines = TEXT.split("\n")[:-1]
        for one, other in itertools.combinations(range(9), 2):
            mixed = list(lines)
            mixed[one], mixed[other] = mixed[other], mixed[one]
            self.refused("".join(line + "\n" for line in mixed))
        self.refused("".join(line + "\n" for line in lines[::-1]))
        self.refused("".join(line + "\n" for line in lines[1:] + lines[:1]))

    def test_line_feeds(self):
        for text in (TEXT, OTHER_TEXT):
            self.refused(text[:-1])
            self.refused(text + "\n")
            self.refused("\n" + text)
            self.refused(text.replace("\n", "\n\n"))
            self.refused(text.replace("\n", "\n\n", 1))
            self.refused(text.replace("\n", "\r\n"))
            self.refused(text.replace("\n", "\r"))
            self.refused(text[:-1] + "\r\n")
            self.refused(text[:-1] + "\r")
            for other in ("\r", "\v", "\f", "\x1c", "\x85", "\u2028", " ", ""):
                self.refused(text.replace("\n", other))
                self.refused(text[:-1] + other)
                self.refused(text.replace("\n", other, 1))

    def test_blanks(self):
        for text in (TEXT, OTHER_TEXT):
            for place, sign in enumerate(text):
                for blank in (" ", "\t", "\u00a0"):
                    self.refused(text[:place] + blank + text[place:])
                if sign == " ":
                    for other in ("", "  ", "\t", "\u00a0", "_", "=", ": "):
                        self.refused(text[:place] + other + text[place + 1:])
            self.refused(text + " ")

    def test_each_sign_changed_or_left_out(self):
        for text in (TEXT, OTHER_TEXT):
            for place in range(len(text)):
                self.unlike(text, text[:place] + text[place + 1:])
                for sign in "0123456789anoweyx \n-+.":
                    self.unlike(text, text[:place] + sign + text[place + 1:])
                    self.unlike(text, text[:place] + sign + text[place:])

    def unlike(self, text, other):
        """What is read, if anything is, has exactly this text."""
        try:
            setting = read_setting(other)
        except NoText:
            return
        self.assertEqual(setting_text(setting), other)
        self.assertEqual(setting == read_setting(text), other == text)

    def test_other_words(self):
        for place, lines in (
            (0, ("Work 2", "WORK 2", "work two", "work", "work ", "work none", "work 2 1", "works 2", "2", "2 work", "room 2",
                 "work II")),
            (5, ("way Oldest", "way old", "way", "way oldest newest", "way none", "way 1", "oldest", "way youngest")),
            (6, ("dead True", "dead true", "dead 1", "dead 0", "dead y", "dead Yes", "dead none", "dead", "dead yes no")),
            (7, ("tokens None", "tokens", "tokens no", "tokens -", "tokens 1 1", "tokens none none", "token 1")),
            (8, ("fuse None", "fuse", "fuse 3", "fuse 3 1 1", "fuse 3,1", "fuse (3, 1)", "fuse none none", "fuse 3 none",
                 "fuse none 1", "fuse 31", "fuse 3  1", "fuse no")),
        ):
            for line in lines:
                self.refused(with_line(place, line))

    def test_other_numbers(self):
        for place, (name, low, high) in enumerate((
            ("work", 1, 3), ("room", 1, 5), ("patience", 1, 4), ("tries", 1, 3), ("wait", 1, 3),
        )):
            for number in range(-5, 30):
                if low <= number <= high:
                    self.assertEqual(read_setting(with_line(place, f"{name} {number}"))[place], number)
                else:
                    self.refused(with_line(place, f"{name} {number}"))
            self.written_otherwise(place, name + " ", 1)
        for number in (-1, 5, 6, 10, 44):
            self.refused(with_line(7, f"tokens {number}"))
        for many, rest in ((0, 1), (1, 0), (4, 1), (1, 4), (-1, 1), (1, -1), (10, 1), (1, 10), (0, 0), (4, 4)):
            self.refused(with_line(8, f"fuse {many} {rest}"))
        self.written_otherwise(7, "tokens ", 0)
        self.written_otherwise(7, "tokens ", 3)
        self.written_otherwise(8, "fuse 1 ", 2)
        for many in ("01", "+1", "-1", "1.0", "1.", "1_", "\u0661", "\u00b9"):
            self.refused(with_line(8, f"fuse {many} 2"))

    def written_otherwise(self, place, start, number):
        self.assertEqual(len(read_setting(with_line(place, f"{start}{number}"))), 9)
        for word in (f"0{number}", f"00{number}", f"+{number}", f"-{number}", f"{number}.0", f"{number}.", f"{number}_",
                     f"_{number}", f"{number}e0", f"0x{number}", f"({number})", f"'{number}'", "True", "False",
                     chr(0x660 + number), chr(0xff10 + number), f"{number}0", f"0{number}0", "9" * 5000):
            self.refused(with_line(place, start + word))

    def test_values_that_are_no_text(self):
        for value in NO_TEXTS:
            self.refused(value)

    def test_long_texts(self):
        self.refused(TEXT * 5000)
        self.refused("\n" * 9)
        self.refused("\n" * 100000)
        self.refused("work " + "1" * 100000 + TEXT[6:])

    def test_wrong_settings(self):
        refuse_in_order(self, setting_text, (SETTING_KIND,))
        self.assertTrue(setting_text(setting_with(dead=True)))

    def test_calls(self):
        check_calls(self, setting_text, ("setting",), (SETTING,))
        check_calls(self, read_setting, ("text",), (TEXT,))

    def test_they_are_defined_in_their_file(self):
        for call in (setting_text, read_setting):
            self.assertEqual(call.__module__, "comesback.texts")
            self.assertIs(getattr(texts_file, call.__name__), call)


if __name__ == "__main__":
    unittest.main()
