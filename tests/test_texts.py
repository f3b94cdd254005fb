"""[20], [22]: lives, nets and readers as lines."""

import unittest

from stoodthen.lifetexts import life_line, read_life
from stoodthen.nettexts import net_line, read_net, read_reader, reader_line
from tests.samples import (
    BOTH, HUGE, KEPT, KITE, POINT, RING, ROW, STILL, TWO, WIDE, Promises, counted_life, random_dials, random_life,
    random_reader, samples)

READER = (("look", 1, (1, 2, 0)), ("look", 0, (3, 2)), ("tell", 7), ("tell", 0))
NO_TEXTS = (None, True, 0, (), [], ("2", "2"), 10 ** 69)
NO_NUMBERS = ("", "-1", "+1", "00", "01", "1.", " ", "x", "1x", "look", "tell", ";", ";;", "0;;", "(1)", "1,", "1\n")


class Texts(Promises):

    def cases(self, read, good, extra=()):
        """Put what can't stand in the place of each field of a line that is read."""
        read(good)
        fields = good.split(" ")
        for place, field in enumerate(fields):
            for wrong in (*NO_NUMBERS, *extra):
                if field not in ("look", "tell") or wrong not in ("look", "tell"):
                    self.unreadable(place, read, " ".join([*fields[:place], wrong, *fields[place + 1:]]))
                self.unreadable(place, read, " ".join([*fields[:place], wrong + ";", *fields[place + 1:]]))


class Lives(Texts):

    def test_written(self):
        self.gives("2 2; 0 0 0; 1 0 1; 1 1 2", life_line, TWO)
        self.gives("3; 2 0", life_line, STILL)
        self.gives("2 3; 0 0 0; 0 2 0; 1 2 1; 1 2 1; 0 1 2; 0 0 2", life_line, KEPT)
        self.gives("12; 11 0; 10 1", life_line, ((12,), (((11,), 0), ((10,), 1))))

    def test_read_as_written(self):
        wide = (WIDE, (((1,) * 199, 0), ((0,) * 199, 0)))
        for life in (TWO, BOTH, STILL, KEPT, wide, (HUGE, (((10 ** 60 - 1,), 0),)), counted_life((2,) * 9, 400),
                     *samples(random_life, 60)):
            self.gives(life, read_life, life_line(life))

    def test_no_strings(self):
        for text in NO_TEXTS:
            self.refuses("text", read_life, text)

    def test_fields_that_cannot_stand(self):
        self.cases(read_life, "2 2; 0 0 0; 1 0 1")
        for field, text in ((0, ""), (0, " "), (0, "x"), (1, "2  2; 0 0 0"), (0, " 2 2; 0 0 0"), (2, "2 2;  0 0 0"),
                            (5, "2 2; 0 0 0 "), (5, "2 2; 0 0 0 ;"), (1, "2 2;; 0 0 0"), (4, "2 2; 0 0 00"),
                            (0, "-2 2; x"), (3, "2 2; 0 -0 0"), (1, "2 2;\n0 0 0"), (1, "2 2;0 0 0")):
            self.unreadable(field, read_life, text)

    def test_texts_that_end_too_soon(self):
        for field, text in ((1, "2"), (2, "2 2"), (2, "2 2;"), (5, "2 2; 0 0 0;"), (1, "2;"), (3, "2 2 2")):
            self.unreadable(field, read_life, text)

    def test_what_the_checker_refuses(self):
        for row, text in (
                (-1, "1; 0 0"), (-1, "0 2; 0 0 0"), (0, "2 2; 0 0"), (0, "2 2; 0 0 0 0"), (0, "2 2; 0"),
                (0, "2 2; 0 2 0"), (0, "2 2; 0 0 1"), (1, "2 2; 0 0 0; 0 0 2"), (1, "2; 0 0; 2 1"), (1, "2; 0 0; 0"),
                (2, "2; 0 0; 1 1; 0 0")):
            self.no_value(row, read_life, text)
        self.unreadable(4, read_life, "1; 9 9; 0 x")


class Nets(Texts):

    def test_written(self):
        self.gives("3; 0 1; 0 2; 1 2", net_line, RING)
        self.gives("1", net_line, POINT)

    def test_read_as_written(self):
        for net in (POINT, ROW, RING, KITE, (30, tuple((0, stage) for stage in range(1, 30)))):
            self.gives(net, read_net, net_line(net))

    def test_no_strings(self):
        for text in NO_TEXTS:
            self.refuses("text", read_net, text)

    def test_fields_that_cannot_stand(self):
        self.cases(read_net, "3; 0 1; 1 2")
        for field, text in ((0, ""), (1, "3 0; 0 1"), (1, "3 0"), (1, "1 "), (1, "3 ;"), (1, "3 x; 0 1"), (3, "3; 0 1 2;;"),
                            (1, "3; 0;1"), (3, "3; 0 1 "), (1, "3 0;")):
            self.unreadable(field, read_net, text)

    def test_texts_that_end_too_soon(self):
        for field, text in ((1, "1;"), (1, "3;"), (3, "3; 0 1;"), (5, "3; 0 1; 1 2;")):
            self.unreadable(field, read_net, text)

    def test_what_the_checker_refuses(self):
        for row, text in ((-1, "0"), (1, "2"), (0, "2; 0"), (0, "2; 0 1 1"), (0, "2; 1 0"), (0, "2; 0 2"),
                          (1, "3; 0 1; 0 1"), (2, "3; 0 1"), (1, "3; 0 2"), (1, "1" + "0" * 69), (-1, "0; 0 1")):
            self.no_value(row, read_net, text)


class Readers(Texts):

    def test_written(self):
        self.gives("2 3; look 1 1 2 0; look 0 3 2; tell 7; tell 0", reader_line, (2, 3), READER)
        self.gives("2; tell 5", reader_line, (2,), (("tell", 5),))
        for reader in (None, (), list(READER), (("look", 0, (0, 4)),), (("tell", True),)):
            self.refuses("reader", reader_line, (2, 3), reader)

    def test_read_as_written(self):
        self.gives(((2, 3), READER), read_reader, reader_line((2, 3), READER))
        for dials in samples(random_dials, 20):
            for reader in samples(random_reader, 5, dials):
                self.gives((dials, reader), read_reader, reader_line(dials, reader))

    def test_no_strings(self):
        for text in NO_TEXTS:
            self.refuses("text", read_reader, text)

    def test_fields_that_cannot_stand(self):
        self.cases(read_reader, "2 3; look 1 1 2 0; tell 7; tell 0", ("tells", "Look", "looktell"))
        for field, text in ((0, ""), (0, "look 0"), (0, "tell 0"), (1, "2;"), (1, "2; 0"), (1, "2; look; 0"),
                            (1, "2; tell; 0"), (2, "2; look tell"), (2, "2; tell tell 0"), (3, "2; tell 0 look"),
                            (3, "2; tell 0; 0"), (2, "2; tell ;"), (2, "2; tell x"), (1, "2;  tell 0"),
                            (1, "2; Tell 0"), (1, "2 tell 0")):
            self.unreadable(field, read_reader, text)

    def test_texts_that_end_too_soon(self):
        for field, text in ((1, "2"), (2, "2 3"), (1, "2;"), (2, "2; tell"), (2, "2; look"), (3, "2; tell 0;"),
                            (4, "2; tell 0; look")):
            self.unreadable(field, read_reader, text)

    def test_what_the_checker_refuses(self):
        for row, text in ((-1, "1; tell 0"), (-1, "0; look 9"), (-1, "2 1; tell 0 0"), (0, "2; tell 0 0"),
                          (0, "2; look 0"), (0, "2; look 0 0"), (0, "2; look 1 0 0"), (0, "2; look 0 0 1"),
                          (1, "2; look 0 0 1; tell 0 1"), (1, "2; tell 0; look 0 0 2")):
            self.no_value(row, read_reader, text)


if __name__ == "__main__":
    unittest.main()
