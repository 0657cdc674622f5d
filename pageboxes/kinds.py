"""The kinds of boxes, and which may stand in which."""

KINDS = (
    "page", "part", "h1", "h2", "h3", "p", "link", "button", "field", "check",
    "list", "item", "table", "row", "cell", "th", "image", "live", "modal",
)
PRESSED_KINDS = ("link", "button", "check")
# The kinds that take nothing else in, and what they take: that in turn stands nowhere else.
TAKEN_IN = {"table": ("row",), "row": ("cell", "th"), "list": ("item",)}


def may_stand_in(kind, around):
    if around in TAKEN_IN:
        return kind in TAKEN_IN[around]
    for taker in TAKEN_IN:
        if kind in TAKEN_IN[taker]:
            return False
    return True
