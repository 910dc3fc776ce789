"""shown: the one form, and that it is read as the same list (promise 6)."""

import unittest

from helper import (WORKED, answer_of, answers_of, fits, form_of, levels, load, part, pattern_rows, run,
                    score, shown, spell, why, word_rows)

TEXTS = (
    WORKED,
    "margins 0 5 ;",
    "margins 5 0;word ab;",
    "margins 1 1 ; pattern a1 ; # the end",
    "# head\n\tmargins\n3 4;word a-b-c;word abcdefghijklmnop;word z-b-c-d-e-f-g-h-i-j-k-l-m-n-o-p;",
    "margins 2 3 ; word wo-rd ; word mar-gins ; word pat-tern ; pattern w1ord ;",
    "margins 2 2 ; pattern 1ab ; pattern ba2 ; pattern a3b. ; pattern .4a5b6. ; pattern .9z ; pattern 9z. ;",
    "margins 2 2 ; pattern 1a2b3c4d5e6f7 ; pattern .1a2b3c4d5e6f7 ; pattern 8x9. ; pattern xyz9xyz ;",
    "margins 1 1 ;" + word_rows(24) + pattern_rows(40),
)


class OneForm(unittest.TestCase):
    def test_byte_by_byte(self):
        found = answer_of("margins 2 3;word a-b;pattern .a1b;", shown())
        rows = ([109, 97, 114, 103, 105, 110, 115, 32, 50, 32, 51, 32, 59, 10]
                + [119, 111, 114, 100, 32, 97, 45, 98, 32, 59, 10]
                + [112, 97, 116, 116, 101, 114, 110, 32, 46, 97, 49, 98, 32, 59, 10])
        self.assertEqual(found, [len(rows)] + rows)

    def test_without_words_or_patterns(self):
        self.assertEqual(form_of("margins 0 5 ;"), "margins 0 5 ;\n")
        self.assertEqual(form_of("margins 4 1;word ab;"), "margins 4 1 ;\nword ab ;\n")
        self.assertEqual(form_of("margins 1 3;pattern a1;"), "margins 1 3 ;\npattern a1 ;\n")

    def test_words_keep_their_order_and_places(self):
        text = "margins 2 2 ; word z-y ; word ta-b-le ; word able ; word a-b-c-d-e-f-g-h-i-j-k-l-m-n-o-p ;"
        self.assertEqual(form_of(text), text.replace(" ; ", " ;\n") + "\n")

    def test_patterns_with_digits_at_every_gap_and_with_points(self):
        text = ("margins 2 2 ; pattern z9 ; pattern 1ab ; pattern .2ab ; pattern abc3 ; pattern ab4. ; "
                "pattern .a5b. ; pattern .6c7d8. ; pattern 1a2b3c4d5e6f7 ; pattern .1a2b3c4d5e6f7. ;")
        self.assertEqual(form_of(text), text.replace(" ; ", " ;\n") + "\n")

    def test_blanks_and_remarks_are_not_kept(self):
        text = "\n# one\nmargins\t2\n2;# two\n\n word  ta-ble#three\n;\tpattern\n\na1b\n;#"
        self.assertEqual(form_of(text), "margins 2 2 ;\nword ta-ble ;\npattern a1b ;\n")

    def test_it_is_told_anew_each_time(self):
        found = run(load(WORKED), shown(), levels("table"), part(0), shown(), shown())
        self.assertEqual(found[1], found[4])
        self.assertEqual(found[1], found[5])


class ReadAsTheSameList(unittest.TestCase):
    def test_every_answer_is_the_same(self):
        for text in TEXTS:
            form = form_of(text)
            asked = [shown(), score()]
            for letters in ("table", "abababababababab", "zz", "xyzxyz", "a", "abcdefghijklmnop"):
                asked += [levels(letters), spell(letters)]
            asked += [part(i) for i in range(-1, 26)]
            asked += [why(i, g) for i in range(-1, 26) for g in range(-1, 18)]
            asked += [fits(p) for p in range(-1, 42)]
            self.assertEqual(run(load(form)), run(load(text)))
            self.assertEqual(answers_of(form, asked), answers_of(text, asked))

    def test_the_form_of_the_form_is_the_form(self):
        for text in TEXTS:
            form = form_of(text)
            self.assertEqual(form_of(form), form)


if __name__ == "__main__":
    unittest.main()
