"""load: texts, tokens and remarks, faults 1 and 2."""

import unittest

from helper import FaultMixin, form_of, load, run

LIST = "margins 2 2 ; word ta-ble ; pattern a1b ;"


class TextLength(FaultMixin, unittest.TestCase):
    def test_4096_bytes_are_not_too_many(self):
        self.right(LIST + " " * (4096 - len(LIST)), 1, 1)
        self.fault(" " * 4096, 3, 4096)

    def test_4097_bytes_are_too_many(self):
        self.fault(LIST + " " * (4097 - len(LIST)), 1, 4096)

    def test_8192_bytes_are_too_many(self):
        self.fault(" " * 8192, 1, 4096)

    def test_too_many_bytes_come_ahead_of_all_other_faults(self):
        self.fault("?" * 4097, 1, 4096)
        self.fault("a" * 8192, 1, 4096)
        self.fault("?" * 4096, 2, 0)


class NoToken(FaultMixin, unittest.TestCase):
    def test_every_byte_by_itself(self):
        chunk = "abcdefghijklmnopqrstuvwxyz0123456789-."
        for byte in range(256):
            if byte in (32, 9, 10, 35):
                self.fault([byte], 3, 1)
            elif byte == 59 or (byte < 128 and chr(byte) in chunk):
                self.fault([byte], 3, 0)
            else:
                self.fault([byte], 2, 0)

    def test_a_byte_that_begins_no_token_in_a_list(self):
        for sign in ("A", "Z", "?", "_", ",", ":", "/", "`", "{", "\r", "\0", "\x7f", "\x0b", "\x0c"):
            self.fault_at(f"margins 2 2 ; word ta@{sign}ble ;", 2)
        head = list(b"margins 2 2 ; ")
        for byte in (128, 160, 195, 255):
            self.fault(head + [byte] + list(b" word ab ;"), 2, len(head))

    def test_a_chunk_of_41_bytes_at_its_first_byte(self):
        self.fault_at("margins 2 2 ; word @" + "a" * 41 + " ;", 2)
        self.fault_at("@" + "m" * 41, 2)
        self.fault_at("margins 2 2 ; word @" + "a-1." * 10 + "b;", 2)
        self.fault_at("margins 2 2 ;@" + "9" * 4000, 2)

    def test_a_chunk_of_40_bytes_is_a_chunk(self):
        self.fault_at("margins 2 2 ; word @" + "a" * 40 + " ;", 7)
        self.fault_at("@" + "m" * 40, 3)
        self.fault_at("margins @" + "-" * 40 + "#\n2 ;", 7)

    def test_a_chunk_ends_where_its_bytes_end(self):
        self.fault_at("margins 2 2 ; word @" + "a" * 40 + "#" + "a" * 40 + ";", 7)
        self.fault_at("margins 2 2 ; word " + "a" * 40 + "@A" + "a" * 41 + ";", 2)

    def test_the_first_of_several(self):
        self.fault_at("margins @? 2 ; word " + "a" * 41 + " ;", 2)
        self.fault_at("margins 2 2 ; word @" + "a" * 41 + " ? ;", 2)

    def test_it_comes_ahead_of_3_4_5_and_7(self):
        many = "margins 2 2 ;" + "".join(f"word a{chr(97 + k)} ;" for k in range(25))
        for wrong in ("", "word", "margins 6 2 ;", "margins 2 2 ; word a ;", ";", many,
                      "margins 2 2 ; word ab ; word a-b ;", "margins 2 2 ; pattern ab ;",
                      "margins 2 2 ; pattern a1 ; word ab ;"):
            self.fault_at(wrong + " @?", 2)
            self.fault_at(wrong + " @" + "x" * 41, 2)
            self.fault_at("@? " + wrong, 2)


class BlanksAndRemarks(FaultMixin, unittest.TestCase):
    def test_the_empty_text(self):
        self.fault("", 3, 0)

    def test_blanks_and_remarks_alone(self):
        for text in (" ", "\t", "\n", " \t\n \n", "#", "# a remark", "#\n", "# margins 2 2 ;\n \t",
                     " # one\n # two", "##\n##", "#?!A\x00\x7f\n"):
            self.fault(text, 3, len(text))

    def test_a_remark_ends_at_a_byte_10(self):
        self.right("# head\nmargins 2 2 ;# ; word ab ;\nword ab ;", 1, 0)
        self.right("margins 2 2 ; # word ab ; # more\n\n#\nword cd ;\n", 1, 0)
        self.fault_at("margins 2 2 ; # word ab ;\n@?", 2)

    def test_no_other_byte_ends_a_remark(self):
        self.right("margins 2 2 ; # one \r word ab ; \t ; # \x0b \x0c word cd ;", 0, 0)

    def test_a_remark_ends_at_the_texts_end(self):
        self.right("margins 2 2 ; # word ab ;", 0, 0)
        self.right("margins 2 2 ;#", 0, 0)
        self.fault("margins 2 2 # ;", 3, 15)

    def test_a_remark_holds_any_byte(self):
        row = list(b"margins 2 2 ; #") + [k for k in range(256) if k != 10]
        self.assertEqual(run(load(row)), [[1, 0, 0]])
        row = list(b"margins 2 2 ; #") + [97] * 100 + list(b"\nword ab ;")
        self.assertEqual(run(load(row)), [[1, 1, 0]])

    def test_a_remark_parts_tokens(self):
        text = "margins#\n2#\n2#\n;#\nword#\nta-ble#\n;#\npattern#\na1b#\n;#"
        self.assertEqual(form_of(text), "margins 2 2 ;\nword ta-ble ;\npattern a1b ;\n")
        self.fault_at("margins 2 2 ; @wo#\nrd ab ;", 3)
        self.fault_at("margins 2 2 ; word ab#-c;\n@cd ;", 3)

    def test_the_blanks(self):
        for blank in (" ", "\t", "\n", " \t\n ", "\n\n\n"):
            text = blank + LIST.replace(" ", blank) + blank
            self.assertEqual(form_of(text), "margins 2 2 ;\nword ta-ble ;\npattern a1b ;\n")

    def test_13_is_no_blank(self):
        self.fault_at("margins 2 2 ;@\r\nword ab ;", 2)
        self.fault_at("margins@\r2 2 ;", 2)

    def test_nothing_between_tokens(self):
        self.right("margins 2 2;word ta-ble;word ab;pattern a1b;pattern .ab3;", 2, 2)
        self.fault_at("@margins2 2;", 3)
        self.fault_at("margins @22;", 7)
        self.fault_at("margins 2 2;@wordab;", 3)
        self.fault_at("margins 2 2;word ab;@;", 3)


if __name__ == "__main__":
    unittest.main()
