"""Whole numbers as they are written in texts, and lists of them."""

MOST_FIGURES = 40


def number_of(text):
    """The whole number that is written so; None of what is none."""
    figures = text[1:] if text.startswith("-") else text
    if not 1 <= len(figures) <= MOST_FIGURES or not all(["0" <= sign <= "9" for sign in figures]):
        return None
    if figures.startswith("0") and text != "0":
        return None
    return int(text)


def numbers_of(text, many):
    """The tuple of so many whole numbers that are written so, a comma between two; None of what is none."""
    words = text.split(",") if text != "" else []
    numbers = tuple([number_of(word) for word in words])
    if len(numbers) != many or None in numbers:
        return None
    return numbers


def written(numbers):
    """The numbers, a comma between two."""
    return ",".join([str(number) for number in numbers])
