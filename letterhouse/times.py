"""Times: minutes of the house's clock, written by the calendar and read from it."""

from letterhouse.errors import BadTime, NoTime
from letterhouse.reader import Astray, Reader
from letterhouse.signs import is_number

DAY_NAMES = ("Mon", "Tue", "Wed", "Thu", "Fri", "Sat", "Sun")
MONTH_DAYS = (31, 28, 31, 30, 31, 30, 31, 31, 30, 31, 30, 31)
LAST_YEAR = 9999
DAY_MINUTES = 1440
MOST_HOURS = 14


def time_of(text):
    """A minute of the house's clock, and by how many minutes the text that tells it is ahead of that."""
    if not isinstance(text, str):
        raise BadTime(1, 1)
    try:
        return read_time(Reader(text))
    except Astray as stop:
        raise BadTime(1, stop.place) from None


def read_time(reader):
    """The minute and by how many it is told ahead, of all that reader reads."""
    day = read_day(reader)
    reader.word(f" {day_name(day)} ")
    clock = read_clock(reader)
    reader.word(" ")
    ahead = read_ahead(reader)
    reader.end()
    return day * DAY_MINUTES + clock - ahead, ahead


def read_day(reader):
    """The number of a day, the first of the calendar being nought."""
    year = reader.number("0001", str(LAST_YEAR))
    reader.word("-")
    month = reader.number("01", str(len(MONTH_DAYS)))
    reader.word("-")
    day = reader.number("01", str(days_in(year, month)))
    return days_ahead(year, month) + day - 1


def read_clock(reader):
    """The minute of a day."""
    hour = reader.number("00", "23")
    reader.word(":")
    return hour * 60 + reader.number("00", "59")


def read_ahead(reader):
    """By how many minutes a time is ahead; below nought where it is behind."""
    behind = reader.one_of("+-") == "-"
    hours = reader.number("00", str(MOST_HOURS))
    # A time is never behind by nought, and beyond the most hours there are no minutes.
    low = "01" if behind and hours == 0 else "00"
    high = "00" if hours == MOST_HOURS else "59"
    minutes = hours * 60 + reader.number(low, high)
    return -minutes if behind else minutes


def time_text(minute, ahead):
    """A minute of the house's clock, written as a time that is ahead of it by so many minutes."""
    if not is_number(minute) or not is_number(ahead):
        raise NoTime("no number")
    if abs(ahead) > MOST_HOURS * 60:
        raise NoTime("too far ahead or behind")
    day, clock = divmod(minute + ahead, DAY_MINUTES)
    if not 0 <= day < days_ahead(LAST_YEAR + 1, 1):
        raise NoTime("no day of the calendar")
    return f"{day_text(day)} {day_name(day)} {clock_text(clock)} {ahead_text(ahead)}"


def day_text(day):
    """The year, the month and the day of a day's number."""
    # No year has more than 366 days, so this is that of the day or one ahead of it.
    year = day // 366 + 1
    while days_ahead(year + 1, 1) <= day:
        year += 1
    month = 1
    while days_ahead(year, month + 1) <= day:
        month += 1
    return f"{year:04d}-{month:02d}-{day - days_ahead(year, month) + 1:02d}"


def clock_text(clock):
    """The hour and the minute of a day's minute."""
    hour, minute = divmod(clock, 60)
    return f"{hour:02d}:{minute:02d}"


def ahead_text(ahead):
    """By how many hours and minutes a time is ahead, or behind."""
    hours, minutes = divmod(abs(ahead), 60)
    mark = "-" if ahead < 0 else "+"
    return f"{mark}{hours:02d}{minutes:02d}"


def day_name(day):
    """The name of a day's number."""
    return DAY_NAMES[day % len(DAY_NAMES)]


def days_ahead(year, month):
    """How many days of the calendar stand ahead of a month; a thirteenth one is the first of the next year."""
    years = year - 1
    leap_days = years // 4 - years // 100 + years // 400
    if month > 2 and has_leap_day(year):
        leap_days += 1
    return years * 365 + leap_days + sum(MONTH_DAYS[:month - 1])


def days_in(year, month):
    """How many days a month has."""
    return MONTH_DAYS[month - 1] + (1 if month == 2 and has_leap_day(year) else 0)


def has_leap_day(year):
    """Whether a year has a day more in February."""
    return year % 400 == 0 or year % 4 == 0 and year % 100 > 0
