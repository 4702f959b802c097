"""What is a name, and what is a number."""

LONGEST_NAME = 8
GREATEST_NUMBER = 10 ** 60


def is_name(thing):
    """Whether the thing is a text of 1 to 8 letters a to z."""
    # The exact kind is asked: a kind derived from str could answer the rest by methods of its own.
    if type(thing) == str and 1 <= len(thing) <= LONGEST_NAME:
        return all("a" <= sign <= "z" for sign in thing)
    return False


def is_number(thing):
    """Whether the thing is a whole number from -10 ** 60 to 10 ** 60."""
    return is_whole(thing) and -GREATEST_NUMBER <= thing <= GREATEST_NUMBER


def is_whole(thing):
    """Whether the thing is a whole number, of any size."""
    # The exact kind is asked: True and False are of a kind derived from int.
    return type(thing) == int
