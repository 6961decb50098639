"""Days: dates of the Gregorian calendar over all years from 1 to 10 ** 30, their numbers, and kinds of years."""
from housekept.errors import BadDate, BadNumber, BadYear
from housekept.shapes import is_between, is_tuple

LAST = 10 ** 30
LENGTHS = (31, 28, 31, 30, 31, 30, 31, 31, 30, 31, 30, 31)

# The kinds of the years 2001 to 2028.
KINDS = ((0, "behind"), (1, "plain"), (2, "ahead"), (3, "leap"),
         (5, "behind"), (6, "plain"), (0, "ahead"), (1, "leap"),
         (3, "behind"), (4, "plain"), (5, "ahead"), (6, "leap"),
         (1, "behind"), (2, "plain"), (3, "ahead"), (4, "leap"),
         (6, "behind"), (0, "plain"), (1, "ahead"), (2, "leap"),
         (4, "behind"), (5, "plain"), (6, "ahead"), (0, "leap"),
         (2, "behind"), (3, "plain"), (4, "ahead"), (5, "leap"))


def is_leap(year):
    return year % 4 == 0 and (year % 100 != 0 or year % 400 == 0)


def month_length(year, month):
    return 29 if month == 2 and is_leap(year) else LENGTHS[month - 1]


def is_date(value):
    if not is_tuple(value, 3, 3) or not is_between(value[0], 1, LAST) or not is_between(value[1], 1, 12):
        return False
    return is_between(value[2], 1, month_length(value[0], value[1]))


def check_date(date):
    if not is_date(date):
        raise BadDate("this is no date")


def is_year(value):
    return is_between(value, 1, LAST)


def days_ahead(year):
    """How many days stand between 1 January of the year 1 and that of a year; below 0 for the year 0."""
    whole = year - 1
    return 365 * whole + whole // 4 - whole // 100 + whole // 400


def days_to(year, month, day):
    """The number of a day, of the years 0 and LAST + 1, too."""
    return days_ahead(year) + sum([month_length(year, one) for one in range(1, month)]) + day - 1


def weekday_of(number):
    """The weekday of a number: the day 0 is a Monday."""
    return number % 7


def number_of(date):
    """How many days a date stands behind the first one."""
    check_date(date)
    return days_to(date[0], date[1], date[2])


def date_at(number):
    """As date_of, of what is known to be a date's number."""
    year = number * 400 // 146097 + 1
    while days_ahead(year) > number:
        year -= 1
    while days_ahead(year + 1) <= number:
        year += 1
    left = number - days_ahead(year)
    month = 1
    while left >= month_length(year, month):
        left -= month_length(year, month)
        month += 1
    return (year, month, left + 1)


def is_date_number(value):
    return is_between(value, 0, days_ahead(LAST + 1) - 1)


def date_of(number):
    """The date with a number."""
    if not is_date_number(number):
        raise BadNumber("this is no number of a date")
    return date_at(number)


def kind_of(year):
    """The weekday of 1 January, and how the year stands to leap years."""
    if not is_year(year):
        raise BadYear("this is no year")
    weekday = weekday_of(days_ahead(year))
    if is_leap(year):
        return (weekday, "leap")
    if is_leap(year - 1):
        return (weekday, "behind")
    return (weekday, "ahead" if is_leap(year + 1) else "plain")
