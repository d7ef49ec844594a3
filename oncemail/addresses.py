"""Addresses and lists of addresses (l7)."""

from oncemail.errors import BadText
from oncemail.names import is_house, is_name


def read_address(text):
    """The address of a text, perhaps behind a shown name."""
    bare = text.strip(" ")
    shown, bracket, rest = bare.partition("<")
    if bracket != "":
        if ">" in shown or "," in shown or not rest.endswith(">"):
            raise BadText("bad address")
        bare = rest[:-1]
    address = bare_address(bare)
    if address is None:
        raise BadText("bad address")
    return address


def bare_address(text):
    """The address of a text without a shown name, or None."""
    user, _, house = text.partition("@")
    address = ("at", user, house)
    return address if is_address(address) else None


def is_address(thing):
    """Whether the thing is the value of an address."""
    if type(thing) is not tuple or len(thing) != 3:
        return False
    kind, user, house = thing
    return kind == "at" and is_name(user) and is_house(house)


def write_address(address):
    """The text of an address."""
    _, user, house = address
    return f"{user}@{house}"


def read_addresses(text):
    """The addresses of a list, a tuple."""
    if text.strip(" ") == "":
        return ()
    return tuple([read_address(piece) for piece in text.split(",")])


def write_addresses(addresses):
    """The text of a list of addresses."""
    return ", ".join([write_address(address) for address in addresses])
