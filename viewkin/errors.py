"""The errors of the package."""


class WebError(ValueError):
    """Any argument that is refused."""


class BadColours(WebError):
    """No colours of a web; place is the number of the item at fault, or None."""

    def __init__(self, place):
        super().__init__("these are not the colours of a web")
        self.place = place


class BadTies(WebError):
    """No ties of a web; place is the number of the item at fault, or None."""

    def __init__(self, place):
        super().__init__("these are not the ties of a web")
        self.place = place


class BadPlace(WebError):
    """The value is no place of the web."""

    def __init__(self, value):
        super().__init__("this is no place of the web")
        self.value = value


class BadNumber(WebError):
    """The value is no number of the sort that is wanted."""

    def __init__(self, value):
        super().__init__("this is no number that may stand here")
        self.value = value


class BadOrder(WebError):
    """The value is no order of the places of the web."""

    def __init__(self, value):
        super().__init__("this is no order of the places of the web")
        self.value = value


class Unlike(WebError):
    """The webs do not look alike."""


class TooGreat(OverflowError):
    """More than most is wanted."""

    def __init__(self, most):
        super().__init__("this is more than the package allows")
        self.most = most


class Apart(WebError):
    """A web does not hang together."""


class BadFolding(WebError):
    """The value is no folding of the one web onto the other one."""

    def __init__(self, value):
        super().__init__("this is no folding of the one web onto the other one")
        self.value = value


class BadOrders(WebError):
    """No layer orders for the ties; place is the number of the item at fault, or None."""

    def __init__(self, place):
        super().__init__("these are not the layer orders of the ties")
        self.place = place


class BadText(WebError):
    """No text of a web; place is the number of the character at fault, or None."""

    def __init__(self, place):
        super().__init__("this is not the text of a web")
        self.place = place


class BadDeed(WebError):
    """No deed on the web; place is the number of the deed at fault, or None."""

    def __init__(self, place):
        super().__init__("this is no deed on the web as it is")
        self.place = place


class NothingLeft(WebError):
    """Nothing is left to be taken back, or to be done again."""
