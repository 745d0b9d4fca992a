"""Forms: the tuples that sayings are made of, and the words in them."""

from boxfall.errors import BadForm

LONGEST_WORD = 8
KEPT_WORDS = ("yes", "no", "me", "him", "x")

# How many words, and how many forms, stand behind each first word.
WORDS_IN = {"yes": 0, "no": 0, "letter": 1, "act": 2, "not": 0, "and": 0, "or": 0, "if": 0, "box": 0}
FORMS_IN = {"yes": 0, "no": 0, "letter": 0, "act": 0, "not": 1, "and": 2, "or": 2, "if": 2, "box": 1}

# A list that contains itself has no end, and no item of it is wrong itself:
# it is given up here, far beyond the length that callers keep to.
MOST_SIGNS = 100000


def is_small(sign):
    """Tell whether a string of one sign is a lower-case letter."""
    return "a" <= sign <= "z"


def is_word(thing):
    """Tell of any object whether it is a word."""
    if not isinstance(thing, str) or not 1 <= len(thing) <= LONGEST_WORD:
        return False
    return all([is_small(sign) for sign in thing])


def is_name(thing):
    """Tell of any object whether it is a name."""
    return is_word(thing) and thing not in KEPT_WORDS


def is_who(thing):
    """Tell of any object whether it can be the WHO or the WHOM of an act."""
    return is_word(thing) and (thing in ("me", "him") or thing not in KEPT_WORDS)


def wrong_in(item):
    """Return None if an item is right itself, otherwise the path in it to what is wrong."""
    if not isinstance(item, (tuple, list)) or len(item) == 0 or not isinstance(item[0], str):
        return ()
    word = item[0]
    if word not in FORMS_IN or len(item) != 1 + WORDS_IN[word] + FORMS_IN[word]:
        return ()
    if word == "letter" and not is_name(item[1]):
        return (1,)
    if word == "act":
        for at in (1, 2):
            if not is_who(item[at]):
                return (at,)
    return None


def path_to_last(steps):
    """Return the path to the last of the items that were walked."""
    path = []
    place = len(steps) - 1
    while place > 0:
        place, at = steps[place]
        path.append(at)
    return tuple(path[::-1])


def items_of(form):
    """Return the items of a form that are forms, depth first; BadForm if it is none.

    A list of what is still to do stands for a recursion, as any object may
    be passed, however deep.
    """
    items = []
    steps = []
    todo = [(form, -1, 0)]
    while todo:
        item, outer, at = todo.pop()
        steps.append((outer, at))
        wrong = wrong_in(item)
        if wrong is not None:
            raise BadForm(path_to_last(steps) + wrong)
        if len(items) == MOST_SIGNS:
            raise BadForm(())
        for below in range(FORMS_IN[item[0]], 0, -1):
            todo.append((item[below], len(items), below))
        items.append(item)
    return items


def built(items):
    """Return the signs for items that are told depth first, tuples throughout."""
    signs = []
    made = []
    for item in items[::-1]:
        many = FORMS_IN[item[0]]
        if many == 0:
            sign = tuple(item)
        elif many == 1:
            sign = (item[0], made.pop())
        else:
            sign = (item[0], made.pop(), made.pop())
        made.append(sign)
        signs.append(sign)
    return signs[::-1]


def signs_of(form):
    """Return the signs of a form, depth first, tuples throughout; BadForm if it is none."""
    return built(items_of(form))


def signs_in(form):
    """Return the signs of what is known to be a form, or one with the stranger's acts."""
    signs = []
    todo = [form]
    while todo:
        sign = todo.pop()
        signs.append(sign)
        todo.extend([sign[at] for at in range(FORMS_IN[sign[0]], 0, -1)])
    return signs


def named(sign, names):
    """Return a sign, an act with the names that stand for its words in a dict."""
    if sign[0] != "act":
        return sign
    return ("act", names.get(sign[1], sign[1]), names.get(sign[2], sign[2]))


def with_names(signs, me, him):
    """Return the signs of a form with two names in the place of `me` and `him`."""
    names = {"me": me, "him": him}
    return built([named(sign, names) for sign in signs])
