"""letterhouse/times.py: times written and read (points 1, 2 and 8)."""

import datetime
import functools
import re
import unittest

from letterhouse.errors import BadTime, NoTime
from letterhouse.times import time_of, time_text
from things import NO_NUMBERS, NO_SIGNS, NO_TEXTS, SIGNS, refusal, where

GOOD = re.compile(r"([0-9]{4})-([0-9]{2})-([0-9]{2}) ([A-Z][a-z]{2}) ([0-9]{2}):([0-9]{2}) [+-]([0-9]{2})([0-9]{2})")
NAMES = ("Mon", "Tue", "Wed", "Thu", "Fri", "Sat", "Sun")
FIRST = datetime.datetime(1, 1, 1)
LAST_MINUTE = 3652059 * 1440 - 1
DAYS = [f"{month:02d}-{day:02d}" for month in range(1, 13) for day in (1, 9, 10, 19, 20, 29, 30, 31)]
TEXTS = ("0001-01-01 Mon 00:00 +0000", "2031-04-05 Sat 17:30 +0130", "2024-02-29 Thu 23:59 -0030",
         "9999-12-31 Fri 09:00 -1400", "1900-02-28 Wed 20:05 +1400", "2000-02-29 Tue 12:34 -0001")


def is_good(text):
    """Whether text is a time, told otherwise than the program tells it."""
    found = GOOD.fullmatch(text)
    if not found:
        return False
    year, month, day, name, hour, minute, hours, minutes = found.groups()
    try:
        date = datetime.datetime(int(year), int(month), int(day), int(hour), int(minute))
    except ValueError:
        return False
    ahead = int(hours) * 60 + int(minutes)
    return NAMES[date.weekday()] == name and int(minutes) < 60 and ahead <= 840 and not text.endswith("-0000")


@functools.lru_cache(maxsize=None)
def is_beginning(text):
    """Whether text is a beginning of a time; what may follow is tried out."""
    if len(text) < 10:
        days = [text + f"{year:04d}-{rest}"[len(text):] for year in (1, 2000, 1999) for rest in DAYS]
        return any(is_beginning(day) for day in days)
    rests = [f" {name} 00:00 +0000" for name in NAMES] + [" Mon 00:00 -0001"]
    return any(is_good(text + rest[len(text) - 10:]) for rest in rests) if len(text) < 26 else is_good(text)


def place_of(text):
    """The first place with which text is no beginning of a time; 0 of a time."""
    if is_good(text):
        return 0
    return next((many for many in range(1, len(text) + 1) if not is_beginning(text[:many])), len(text) + 1)


def told(date, ahead):
    """The text of a date that is told so, and the minute of the house's clock."""
    mark = "-" if ahead < 0 else "+"
    hours, minutes = divmod(abs(ahead), 60)
    text = f"{date.year:04d}-{date:%m-%d} {NAMES[date.weekday()]} {date:%H:%M} {mark}{hours:02d}{minutes:02d}"
    return text, (date - FIRST) // datetime.timedelta(minutes=1) - ahead


class Both(unittest.TestCase):
    """Minutes and texts, there and back."""

    def same(self, text, minute, ahead):
        with self.subTest(text=text):
            self.assertEqual(time_of(text), (minute, ahead))
            self.assertIs(type(time_of(text)), tuple)
            self.assertEqual(time_text(minute, ahead), text)

    def dates(self, dates, aheads=(0, 90, -90)):
        for date in dates:
            for ahead in aheads:
                text, minute = told(date, ahead)
                self.same(text, minute, ahead)

    def test_the_first_minute_of_the_calendar(self):
        self.same("0001-01-01 Mon 00:00 +0000", 0, 0)
        self.same("0001-01-01 Mon 00:01 +0000", 1, 0)
        self.same("0001-01-01 Mon 00:00 +0001", -1, 1)
        self.same("0001-01-01 Mon 00:00 -0001", 1, -1)
        self.same("0001-01-01 Mon 00:00 +1400", -840, 840)
        self.same("0001-01-01 Mon 00:00 -1400", 840, -840)
        self.same("0001-01-01 Mon 23:59 +0000", 1439, 0)
        self.same("0001-01-02 Tue 00:00 +0000", 1440, 0)

    def test_the_last_minute_of_the_calendar(self):
        self.same("9999-12-31 Fri 23:59 +0000", LAST_MINUTE, 0)
        self.same("9999-12-31 Fri 23:59 +1400", LAST_MINUTE - 840, 840)
        self.same("9999-12-31 Fri 23:59 -1400", LAST_MINUTE + 840, -840)
        self.same("9999-12-31 Fri 23:59 -0001", LAST_MINUTE + 1, -1)

    def test_a_time_of_the_document(self):
        text, minute = told(datetime.datetime(2031, 4, 5, 17, 30), 90)
        self.same("2031-04-05 Sat 17:30 +0130", minute, 90)
        self.assertEqual(text, "2031-04-05 Sat 17:30 +0130")

    def test_ends_of_months(self):
        for year in (1, 4, 100, 400, 1900, 2000, 2023, 2024, 2100, 9996, 9999):
            for month in range(1, 13):
                first = datetime.datetime(year, month, 1)
                ahead = [first - datetime.timedelta(days=1)] if first > FIRST else []
                self.dates([first] + ahead, (0, 840, -840))

    def test_ends_of_years(self):
        for year in list(range(1, 10)) + [99, 100, 101, 399, 400, 401, 1899, 1900, 1999, 2000, 2001, 9998, 9999]:
            self.dates([datetime.datetime(year, 1, 1), datetime.datetime(year, 12, 31, 23, 59)])

    def test_a_day_of_each_year(self):
        self.dates([datetime.datetime(year, 1 + year % 12, 1 + year % 28, year % 24, year % 60) for year in range(1, 10000)],
                   (0,))

    def test_each_day_of_some_years(self):
        for year in (1999, 2000, 2001, 2004, 2100):
            first = datetime.datetime(year, 1, 1, 12)
            self.dates([first + datetime.timedelta(days=more) for more in range(366)], (0,))

    def test_each_minute_of_a_day(self):
        first = datetime.datetime(2024, 2, 28)
        self.dates([first + datetime.timedelta(minutes=more) for more in range(1441)], (0, 1, -1))

    def test_ahead_by_each_minute(self):
        self.dates([datetime.datetime(2024, 2, 29, 12)], range(-840, 841))

    def test_a_text_is_the_house_clock_and_by_how_much_it_is_ahead(self):
        minute = time_of("2031-04-05 Sat 12:00 +0000")[0]
        self.assertEqual(time_of("2031-04-05 Sat 13:30 +0130"), (minute, 90))
        self.assertEqual(time_of("2031-04-04 Fri 22:00 -1400"), (minute, -840))
        self.assertEqual(time_text(minute, 840), "2031-04-06 Sun 02:00 +1400")


class NoTimes(unittest.TestCase):
    def test_what_is_no_number(self):
        for thing in NO_NUMBERS:
            with self.subTest(thing=thing):
                refusal(NoTime, time_text, thing, 0)
                refusal(NoTime, time_text, 0, thing)
                refusal(NoTime, time_text, thing, thing)

    def test_ahead_by_too_much(self):
        for ahead in (841, -841, 1440, -1440, 10 ** 29, -10 ** 29):
            with self.subTest(ahead=ahead):
                refusal(NoTime, time_text, 10 ** 6, ahead)
                refusal(NoTime, time_text, 10 ** 6 - ahead, ahead)

    def test_days_beyond_the_calendar(self):
        for minute, ahead in ((-1, 0), (0, -1), (-841, 840), (839, -840), (-10 ** 29, 0), (LAST_MINUTE + 1, 0),
                              (LAST_MINUTE, 1), (LAST_MINUTE - 839, 840), (LAST_MINUTE + 841, -840), (10 ** 29, 0)):
            with self.subTest(minute=minute, ahead=ahead):
                refusal(NoTime, time_text, minute, ahead)


class BadTimes(unittest.TestCase):
    def places(self, *pairs):
        for text, place in pairs:
            with self.subTest(text=text):
                self.assertEqual(where(BadTime, time_of, text), (1, place))

    def test_what_is_no_text(self):
        for thing in NO_TEXTS:
            with self.subTest(thing=thing):
                self.assertEqual(where(BadTime, time_of, thing), (1, 1))

    def test_a_text_that_ends_too_early(self):
        for text in TEXTS:
            self.places(*[(text[:many], many + 1) for many in range(26)])

    def test_a_text_that_goes_on(self):
        for text in TEXTS:
            self.places(*[(text + more, 27) for more in ("0", " ", "\n", "x", "%", text, "\u0661")])

    def test_the_year(self):
        self.places(("0000-01-01 Sat 00:00 +0000", 4), ("0000", 4), ("000", 4), ("0", 2), ("", 1), ("-001", 1),
                    ("+001", 1), ("1-", 2), ("99999", 5), (" 2031", 1), ("2031/", 5), ("203a", 4), ("31-04-05", 3))

    def test_the_month(self):
        self.places(("2031-00", 7), ("2031-13", 7), ("2031-19", 7), ("2031-20", 6), ("2031-4-", 6), ("2031-1-", 7),
                    ("2031-010", 8), ("2031-01 ", 8), ("2031--", 6), ("2031- 1", 6))

    def test_the_day(self):
        self.places(("2031-04-00", 10), ("2031-04-31", 10), ("2031-04-32", 10), ("2031-04-40", 9), ("2031-05-32", 10),
                    ("2031-05-39", 10), ("2031-02-29", 10), ("2031-02-30", 9), ("2024-02-30", 9), ("1900-02-29", 10),
                    ("2100-02-29", 10), ("2000-02-30", 9), ("2031-04-5 ", 9), ("2031-04-1 ", 10), ("2031-04-051", 11))

    def test_days_that_are_there(self):
        for text in ("2024-02-29 Thu", "2000-02-29 Tue", "2031-05-31 Sat", "2031-02-28 Fri", "2031-04-30 Wed"):
            self.places((text, 15))

    def test_the_day_name(self):
        self.places(("2031-04-05 Sun", 13), ("2031-04-05 Mon", 12), ("2031-04-05 sat", 12), ("2031-04-05 SAT", 13),
                    ("2031-04-05 Sa ", 14), ("2031-04-05  Sat", 12), ("2031-04-05Sat", 11), ("2031-04-05 Satu", 15),
                    ("2031-04-01 Thu", 13), ("2031-04-03 Tue", 13), ("2031-04-01 Tuu", 14))
        for at in range(7):
            text = f"2031-04-{7 + at:02d} {NAMES[at]} 00:00 +0000"
            self.assertEqual(time_text(*time_of(text)), text)
            for name in NAMES:
                wrong = text.replace(NAMES[at], name)
                if wrong != text:
                    self.places((wrong, 12 + min(k for k in range(3) if name[k] != NAMES[at][k])))

    def test_the_hour_and_the_minute(self):
        head = "2031-04-05 Sat "
        self.places((head + "24:00", 17), (head + "29:00", 17), (head + "30:00", 16), (head + "9:00", 16),
                    (head + "09.00", 18), (head + "0900", 18), (head + "09:60", 19), (head + "09:5 ", 20),
                    (head + "09:000", 21), (head + " 9:00", 16), (head + "09: 0", 19), (head + "-1:00", 16))

    def test_by_how_much_it_is_ahead(self):
        head = "2031-04-05 Sat 17:30 "
        self.places((head + "-0000", 26), (head + "+1401", 26), (head + "-1401", 26), (head + "+1410", 25),
                    (head + "+1459", 25), (head + "+1500", 24), (head + "-1500", 24), (head + "+2000", 23),
                    (head + "+0060", 25), (head + "-0099", 25), (head + "0130", 22), (head + " 0130", 22),
                    (head + "+130", 26), (head + "+1:30", 24), (head + "+01:30", 25), (head + "*0000", 22),
                    (head[:-1] + "+0130", 21))

    def test_what_is_no_sign_in_each_place(self):
        for sign in NO_SIGNS:
            for at in range(27):
                for text in TEXTS[:2]:
                    self.places((text[:at] + sign + text[at + 1:], at + 1))

    def test_each_sign_in_each_place(self):
        for text in TEXTS:
            for at in range(26):
                for sign in SIGNS:
                    self.agrees(text[:at] + sign + text[at + 1:])

    def test_a_sign_more_or_less_in_each_place(self):
        for text in TEXTS:
            for at in range(26):
                self.agrees(text[:at] + text[at + 1:])
                for sign in "012345 -+:Mo":
                    self.agrees(text[:at] + sign + text[at:])

    def agrees(self, text):
        place = place_of(text)
        if place:
            self.assertEqual(where(BadTime, time_of, text), (1, place), text)
        else:
            self.assertEqual(time_text(*time_of(text)), text)

    def test_figures_that_are_no_ascii_ones(self):
        self.places(("\u0662031-04-05 Sat 17:30 +0130", 1), ("2031-04-0\uff15 Sat 17:30 +0130", 10))


if __name__ == "__main__":
    unittest.main()
