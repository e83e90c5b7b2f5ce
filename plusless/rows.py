"""Rows of numbers, their parts and their signs."""

from plusless.errors import NoNumber, NoRow, NoSigns

LONGEST_ROW = 16


def is_whole(thing):
    # Python takes True and False for numbers; here they are none.
    return isinstance(thing, int) and not isinstance(thing, bool)


def are_whole(thing, many):
    return isinstance(thing, tuple) and len(thing) == many and all([is_whole(number) for number in thing])


def is_row(thing):
    if not isinstance(thing, tuple) or len(thing) > LONGEST_ROW:
        return False
    return all([is_whole(number) and number >= 1 for number in thing])


def need_row(thing):
    if not is_row(thing):
        raise NoRow("a row is a tuple of 0 to 16 whole numbers from 1 on")


def need_number(thing):
    if not is_whole(thing):
        raise NoNumber("this is no whole number")


def need_number_from(least, thing):
    need_number(thing)
    if thing < least:
        raise NoNumber(f"this number is below {least}")


def need_row_and_number(row, number):
    need_row(row)
    need_number(number)


def are_parts(thing, row):
    need_row(row)
    return are_whole(thing, len(row)) and all([-1 <= part <= 1 for part in thing])


def are_so_many_signs(thing, many):
    return are_whole(thing, many) and all([abs(sign) == 1 for sign in thing])


def are_signs(thing, row):
    need_row(row)
    return are_so_many_signs(thing, len(row))


def need_parts(row, thing):
    if not are_parts(thing, row):
        raise NoSigns("parts are a tuple of 1, 0 or -1, one for each number of the row")


def need_so_many_signs(thing, many):
    if not are_so_many_signs(thing, many):
        raise NoSigns(f"signs are here a tuple of 1 or -1, {many} of them")


def total(row):
    need_row(row)
    return sum(row)


def worth(row, parts):
    need_parts(row, parts)
    return sum([number * part for number, part in zip(row, parts)])


def turned(row, parts):
    need_parts(row, parts)
    return tuple([-part for part in parts])


def places_with(wanted, parts):
    return tuple([place for place, part in enumerate(parts) if part == wanted])


def lots(row, parts):
    need_parts(row, parts)
    return (places_with(1, parts), places_with(-1, parts))


def kept(row, parts):
    need_parts(row, parts)
    numbers = tuple([number for number, part in zip(row, parts) if part != 0])
    signs = tuple([part for part in parts if part != 0])
    return (numbers, signs)
