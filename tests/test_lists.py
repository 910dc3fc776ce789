"""load: margins, words and patterns, faults 3, 4, 5 and 7."""

import unittest

from helper import WORKED, FaultMixin, form_of, load, pattern_rows, run, shown, word_rows

HEAD = "margins 2 2 ; "


class Right(FaultMixin, unittest.TestCase):
    def test_how_many_words_and_patterns(self):
        self.right(WORKED, 3, 3)
        self.right(HEAD, 0, 0)
        self.right(HEAD + "word ab ;", 1, 0)
        self.right(HEAD + "pattern a1 ;", 0, 1)
        self.right(HEAD + word_rows(24) + pattern_rows(40), 24, 40)

    def test_the_list_is_held_from_then_on(self):
        text = HEAD + "word ab-le ; pattern a1b ;"
        self.assertEqual(form_of(text), "margins 2 2 ;\nword ab-le ;\npattern a1b ;\n")

    def test_a_list_takes_the_place_of_the_one_before(self):
        found = run(load(HEAD + "word ab ;"), load("margins 0 1 ; pattern x1 ;"), shown())
        self.assertEqual(found[1], [1, 0, 1])
        self.assertEqual(bytes(found[2][1:]), b"margins 0 1 ;\npattern x1 ;\n")


class NothingChanges(unittest.TestCase):
    WRONG = ("", "?", "margins 6 2 ;", "margins 0 0 ; word ab ; word ab ;", " " * 4097,
             "margins 0 0 ; word xy ; pattern x1y ; ;", "margins 0 0 ;" + word_rows(25),
             "margins 0 0 ;" + pattern_rows(41))

    def test_no_list_is_held_still(self):
        for text in self.WRONG:
            found = run(load(text), shown())
            self.assertEqual(found[0][0], 0)
            self.assertEqual(found[1], [-1])

    def test_the_list_held_before_stays_as_it_was(self):
        right = HEAD + "word ab-le ; pattern a1b ;"
        for text in self.WRONG:
            found = run(load(right), shown(), load(text), shown())
            self.assertEqual(found[0], [1, 1, 1])
            self.assertEqual(found[2][0], 0)
            self.assertEqual(found[3], found[1])


class NotAllowedHere(FaultMixin, unittest.TestCase):
    def test_margins_stand_first(self):
        for text in ("@;", "@word ab ;", "@pattern a1 ;", "@2 2 ;", "@margin 2 2 ;", "@marginss 2 2 ;",
                     " # remark\n @-margins 2 2 ;", "@margins. 2 2 ;"):
            self.fault_at(text, 3)

    def test_a_sign_where_a_chunk_has_to_stand(self):
        for text in ("margins @; 2 2 ;", "margins 2 @; 2 ;", "margins 2 2 ; word @; ab ;",
                     "margins 2 2 ; pattern @; a1 ;", "margins 2 2 ; word ab ; word @;;"):
            self.fault_at(text, 3)

    def test_a_chunk_where_the_sign_has_to_stand(self):
        for text in ("margins 2 2 @word ab ;", "margins 2 2 @2 ;", "margins 2 2 ; word ab @cd ;",
                     "margins 2 2 ; word ab @word cd ;", "margins 2 2 ; pattern a1 @pattern b1 ;"):
            self.fault_at(text, 3)

    def test_neither_word_nor_pattern(self):
        for text in (HEAD + "@;", HEAD + "@margins 2 2 ;", HEAD + "@words ab ;", HEAD + "@ab ;",
                     HEAD + "word ab ; @wor cd ;", HEAD + "word ab ;@;", HEAD + "@patter a1 ;",
                     HEAD + "word ab ; @margins 2 2 ;", HEAD + "pattern a1 ; @margins 2 2 ;",
                     HEAD + "pattern a1 ; @; pattern b1 ;", HEAD + "pattern a1 ; @patterns b1 ;"):
            self.fault_at(text, 3)

    def test_the_texts_end(self):
        for text in ("margins", "margins 2", "margins 2 2", "margins 2 2 ; word", "margins 2 2 ; word ab",
                     "margins 2 2 ; pattern", "margins 2 2 ; pattern a1", "margins 2 2 ; word ab ; word"):
            for behind in ("", " ", "\n\n", " # remark", "# remark ;\n"):
                self.fault(text + behind, 3, len(text + behind))

    def test_a_word_behind_a_pattern(self):
        self.fault_at(HEAD + "pattern a1 ; @word ab ;", 3)
        self.fault_at(HEAD + "word ab ; pattern a1 ; @word cd ;", 3)
        self.fault_at(HEAD + "word ab ; pattern a1 ; @word a ;", 3)
        self.fault_at(HEAD + word_rows(24) + "pattern a1 ; @word xy ;", 3)
        self.fault_at(HEAD + pattern_rows(40) + "@word xy ;", 3)


class TooMany(FaultMixin, unittest.TestCase):
    def test_a_twenty_fifth_word(self):
        self.right(HEAD + word_rows(24), 24, 0)
        self.fault_at(HEAD + word_rows(24) + "@word xy ;", 4)
        self.fault_at(HEAD + word_rows(24) + "@word", 4)
        self.fault_at(HEAD + word_rows(24) + "@word ; ;", 4)
        self.fault_at(HEAD + word_rows(24) + "@word aa ;", 4)
        self.fault_at(HEAD + word_rows(24) + "@word a ;", 4)

    def test_a_forty_first_pattern(self):
        self.right(HEAD + pattern_rows(40), 0, 40)
        self.fault_at(HEAD + pattern_rows(40) + "@pattern x1y ;", 4)
        self.fault_at(HEAD + pattern_rows(40) + "@pattern", 4)
        self.fault_at(HEAD + pattern_rows(40) + "@pattern xy ;", 4)
        self.fault_at(HEAD + pattern_rows(40) + "@pattern a1a ;", 4)
        self.fault_at(HEAD + word_rows(24) + pattern_rows(40) + "@pattern x1y ;", 4)

    def test_only_the_words_chunk_is_too_many(self):
        self.fault_at(HEAD + word_rows(24) + "@; word xy ;", 3)
        self.fault_at(HEAD + pattern_rows(40) + "@; pattern x1y ;", 3)


class Leftmost(FaultMixin, unittest.TestCase):
    def test_of_3_4_5_and_7_the_leftmost_is_told(self):
        self.fault_at("margins @6 ; word", 7)
        self.fault_at("margins 2 @; word a ;", 3)
        self.fault_at(HEAD + "word @a word ab ; word ab", 7)
        self.fault_at(HEAD + "word ab ; word @ab word a", 5)
        self.fault_at(HEAD + "word ab ; word @ab ; word a ;", 5)
        self.fault_at(HEAD + "word ab ; word @a ; word ab ;", 7)
        self.fault_at(HEAD + word_rows(23) + "word @aa ;" + "word xy ;", 5)
        self.fault_at(HEAD + word_rows(24) + "@word xy ; ; word a ;", 4)
        self.fault_at(HEAD + word_rows(23) + "word @a ; word xy ;", 7)
        self.fault_at(HEAD + word_rows(10) + "@;" + word_rows(24), 3)
        self.fault_at(HEAD + pattern_rows(39) + "pattern @a1a ; pattern x1 ;", 5)
        self.fault_at(HEAD + pattern_rows(39) + "pattern @aa ; pattern x1 ;", 7)

    def test_7_ahead_of_5_at_one_chunk(self):
        self.fault_at(HEAD + "word ta-ble ; word @ta--ble ;", 7)
        self.fault_at(HEAD + "word table ; word @-table ;", 7)
        self.fault_at(HEAD + "pattern a1b ; pattern @ab ;", 7)
        self.fault_at(HEAD + "pattern .a1b ; pattern @.a12b ;", 7)


class Margins(FaultMixin, unittest.TestCase):
    def test_0_to_5(self):
        for left in range(6):
            for right in range(6):
                self.assertEqual(form_of(f"margins {left} {right} ;"), f"margins {left} {right} ;\n")

    def test_other_chunks(self):
        for chunk in ("6", "7", "8", "9", "00", "01", "10", "22", "a", "z", "-", ".", "-1", "1-", "2.",
                      "margins", "word", "pattern", "l", "x2", "5a"):
            self.fault_at(f"margins @{chunk} 2 ;", 7)
            self.fault_at(f"margins 2 @{chunk} ;", 7)

    def test_the_left_one_is_told_first(self):
        self.fault_at("margins @6 6 ;", 7)


class Words(FaultMixin, unittest.TestCase):
    def test_2_and_16_letters(self):
        self.right(HEAD + "word ab ; word abcdefghijklmnop ; word a-z ;", 3, 0)
        self.right(HEAD + "word a-b-c-d-e-f-g-h-i-j-k-l-m-n-o-p ;", 1, 0)

    def test_1_and_17_letters(self):
        for chunk in ("a", "z", "abcdefghijklmnopq", "a-b-c-d-e-f-g-h-i-j-k-l-m-n-o-p-q", "a" * 40):
            self.fault_at(HEAD + f"word @{chunk} ;", 7)

    def test_where_no_hyphen_may_stand(self):
        for chunk in ("-table", "table-", "ta--ble", "-", "--", "-a", "a-", "a--b", "-ab-", "ta-b--le",
                      "ta---ble", "a-b-"):
            self.fault_at(HEAD + f"word @{chunk} ;", 7)

    def test_digits_and_points(self):
        for chunk in ("ta1ble", "1table", "table9", "0ab", "ta.ble", ".table", "table.", ".", "12", "a1",
                      "1-2", "a-1"):
            self.fault_at(HEAD + f"word @{chunk} ;", 7)

    def test_the_same_letters_twice(self):
        self.fault_at(HEAD + "word table ; word @table ;", 5)
        self.fault_at(HEAD + "word ta-ble ; word @tab-le ;", 5)
        self.fault_at(HEAD + "word ab ; word table ; word @t-a-b-l-e ;", 5)
        self.right(HEAD + "word table ; word tables ; word tabel ; word able ;", 4, 0)

    def test_words_called_like_the_chunks(self):
        self.right(HEAD + "word margins ; word word ; word pattern ; pattern w1ord ;", 3, 1)
        self.fault_at(HEAD + "word word ; word @wo-rd ;", 5)


class Patterns(FaultMixin, unittest.TestCase):
    def test_1_and_6_letters(self):
        for chunk in ("a1", "1a", "abcdef1", "a1bcdef", "1a2b3c4d5e6f7", ".1a2b3c4d5e6f7.", "9z"):
            self.right(HEAD + f"pattern {chunk} ;", 0, 1)

    def test_no_letter_and_7_letters(self):
        for chunk in ("1", "9", ".1", "1.", ".1.", ".", "..", "...", "abcdefg1", "a1bcdefg",
                      ".1a2b3c4d5e6f7g8."):
            self.fault_at(HEAD + f"pattern @{chunk} ;", 7)

    def test_digits(self):
        for digit in range(1, 10):
            self.right(HEAD + f"pattern a{digit}b ; pattern {digit}x ; pattern y{digit} ;", 0, 3)
        for chunk in ("a0b", "0a", "a0", "a0b1", "0a1", "a10", "01a", "a12b", "11a", "a11", "a1b22", "a123b"):
            self.fault_at(HEAD + f"pattern @{chunk} ;", 7)

    def test_no_digit_at_all(self):
        for chunk in ("a", "ab", ".ab", "ab.", ".ab.", "abcdef", "word", "pattern"):
            self.fault_at(HEAD + f"pattern @{chunk} ;", 7)

    def test_points(self):
        for chunk in (".a1b", "a1b.", ".a1b.", ".1ab", "ab1.", ".1a.", ".a1."):
            self.right(HEAD + f"pattern {chunk} ;", 0, 1)
        for chunk in ("a.1b", "a1.b", "a.b1", "..a1b", "a1b..", "1.ab", "a.1", "ab.1", "ab.1.", ".1.ab",
                      "..1a", "1a.."):
            self.fault_at(HEAD + f"pattern @{chunk} ;", 7)

    def test_a_hyphen(self):
        for chunk in ("a-1b", "a1-b", "-a1b", "a1b-", "-", "a-b", "1-", ".-a1"):
            self.fault_at(HEAD + f"pattern @{chunk} ;", 7)

    def test_the_same_letters_and_points_twice(self):
        self.fault_at(HEAD + "pattern a1b ; pattern @a1b ;", 5)
        self.fault_at(HEAD + "pattern a1b ; pattern @2ab ;", 5)
        self.fault_at(HEAD + "pattern .a1b ; pattern b1 ; pattern @.ab3 ;", 5)
        self.fault_at(HEAD + "pattern ab1. ; pattern @a2b. ;", 5)
        self.fault_at(HEAD + "pattern .ab1. ; pattern @.1ab. ;", 5)

    def test_the_same_letters_and_other_points(self):
        self.right(HEAD + "pattern a1b ; pattern .a1b ; pattern a1b. ; pattern .a1b. ;", 0, 4)

    def test_a_pattern_with_a_words_letters(self):
        self.right(HEAD + "word ab ; pattern a1b ;", 1, 1)


if __name__ == "__main__":
    unittest.main()
