"""The words: names, labels, letters, and the statements that are made of them."""

from mostwise.errors import NoStatement

SMALL = "abcdefghijklmnopqrstuvwxyz"
SMALL_OR_FIGURE = "abcdefghijklmnopqrstuvwxyz0123456789"
GREAT = "ABCDEFGHIJKLMNOPQRSTUVWXYZ"
LONGEST = 8
MOST_PLACES = 2


def is_made_of(thing, signs, most):
    # The kind comes first: of a thing of another kind neither length nor signs can be asked.
    return isinstance(thing, str) and 1 <= len(thing) <= most and all([sign in signs for sign in thing])


def is_name(thing):
    return is_made_of(thing, SMALL, LONGEST)


def is_label(thing):
    return is_made_of(thing, SMALL_OR_FIGURE, LONGEST)


def is_letter(thing):
    return is_made_of(thing, GREAT, 1)


def places_of(behind):
    # Of the text behind the first bracket; None where it is not one or two places and the closing bracket.
    if not behind.endswith(")"):
        return None
    places = behind[:-1].split(",")
    if len(places) > MOST_PLACES:
        return None
    if not all([is_name(place) or is_letter(place) for place in places]):
        return None
    return tuple(places)


def parts_of(statement):
    if not isinstance(statement, str):
        raise NoStatement(statement)
    side = "-" if statement.startswith("-") else ""
    cut = statement[len(side):].partition("(")
    places = places_of(cut[2]) if cut[1] == "(" else ()
    if places is None or not is_name(cut[0]):
        raise NoStatement(statement)
    return (side, cut[0], places)


def is_statement(thing):
    try:
        parts_of(thing)
    except NoStatement:
        return False
    return True


def text_of(side, name, places):
    if len(places) == 0:
        return side + name
    return side + name + "(" + ",".join(places) + ")"


def opposite(statement):
    return statement[1:] if statement.startswith("-") else "-" + statement


def letters_of(statement):
    letters = []
    for place in parts_of(statement)[2]:
        if is_letter(place) and place not in letters:
            letters.append(place)
    return letters


def is_written_out(thing):
    return is_statement(thing) and letters_of(thing) == []


def put_for(place, given):
    # Things stay even where the dict has them as a key: only letters are filled.
    return given[place] if is_letter(place) and place in given else place


def filled(statement, given):
    parts = parts_of(statement)
    return text_of(parts[0], parts[1], tuple([put_for(place, given) for place in parts[2]]))
