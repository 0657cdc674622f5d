"""The errors that stand for refusals, one for each."""


class NotAPage(Exception):
    pass


class NotRules(Exception):
    pass


class NoSuchBox(Exception):
    pass


class DoesNothing(Exception):
    pass


class CannotBePressed(Exception):
    pass
