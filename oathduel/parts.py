"""What things of any kind are made of: whole numbers, places, and tuples that begin with a word."""


def is_number(thing):
    # Python counts True and False among its whole numbers; here they are none.
    return isinstance(thing, int) and not isinstance(thing, bool)


def is_place(thing, many):
    return is_number(thing) and 0 <= thing < many


def begins_with(thing, word, many):
    return isinstance(thing, tuple) and len(thing) == many and thing[0] == word
