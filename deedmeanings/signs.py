"""Signs: texts as pieces, and the order in which what the pieces tell is put together."""

from deedmeanings.names import LETTERS, is_name
from deedmeanings.says import Say

SAY_SIGNS = "01~&^|()"
# How much the signs between two things bind.
SAY_BINDING = {"|": 1, "^": 2, "&": 3}
MOST_BINDING = 4


def pieces_of(text, signs):
    """The list of the pieces of a text but for spaces, None if something stands in it that is no piece.

    A piece is one of some signs, or all letters that stand side by side. If [ is a sign, all that stands
    from one to the next ] is a piece.
    """
    found = []
    at = 0
    while at < len(text):
        end = at + 1
        if text[at] in LETTERS:
            while end < len(text) and text[end] in LETTERS:
                end += 1
        elif text[at] != " " and text[at] not in signs:
            return None
        elif text[at] == "[":
            end = text.find("]", at) + 1
            if end == 0:
                return None
        if text[at] != " ":
            found.append(text[at:end])
        at = end
    return found


def put_in_order(pieces, binding):
    """The pieces but for parentheses, each sign behind what it stands for; None if they do not fit together.

    The signs of which is told how much they bind stand between two things, ~ stands ahead of a thing, and
    * behind one; all other pieces are things.
    """
    found = []
    waiting = []
    is_behind = False
    for piece in pieces:
        joins = piece == ")" or piece in binding
        if (joins or piece == "*") != is_behind:
            return None
        if joins:
            while waiting and waiting[-1] != "(" and binding.get(waiting[-1], MOST_BINDING) >= binding.get(piece, 0):
                found.append(waiting.pop())
        if piece == ")":
            if not waiting:
                return None
            waiting.pop()
        elif piece in ("~", "(") or joins:
            waiting.append(piece)
            is_behind = False
        else:
            found.append(piece)
            is_behind = True
    if "(" in waiting or not is_behind:
        return None
    return found + waiting[::-1]


def say_text(say):
    """The text of a say."""
    terms = say.terms()
    if say == Say.yes():
        return "1"
    return " | ".join([term_text(yes, no) for yes, no in terms]) if terms else "0"


def term_text(yes, no):
    """The text of a term that has names."""
    names = sorted([str(name) for name in yes + no])
    return " & ".join([name if name in yes else "~" + name for name in names])


def say_told(text):
    """The say that a text tells, None for any object that is no text of a say."""
    pieces = pieces_of(text, SAY_SIGNS) if isinstance(text, str) else None
    order = None if pieces is None else put_in_order(pieces, dict(SAY_BINDING))
    if order is None or not all([is_name(piece) or piece in SAY_SIGNS for piece in order]):
        return None
    says = []
    for piece in order:
        if piece == "~":
            says.append(~says.pop())
        elif piece in SAY_BINDING:
            other = says.pop()
            says.append(both_told(piece, says.pop(), other))
        elif piece in ("0", "1"):
            says.append(Say.yes() if piece == "1" else Say.no())
        else:
            says.append(Say.test(piece))
    return says[0]


def both_told(sign, one, other):
    """The say that two says tell with a sign between them."""
    if sign == "&":
        return one & other
    return one ^ other if sign == "^" else one | other
