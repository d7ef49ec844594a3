"""Addresses and lists of addresses (l7)."""

from oncemail.errors import BadText
from oncemail.names import is_house, is_name


def read_address(text):
    """The address of a text, perhaps behind a shown name."""
    bare = text.strip(" ")
    shown, bracket, rest = bare.partition("<")
    if bracket != "":
        if ">" in shown or "," in shown or not rest.endswith(">"):
            raise BadText("bad address")
        bare = rest[:-1]
    user, _, house = bare.partition("@")
    if not is_name(user) or not is_house(house):
        raise BadText("bad address")
    return ("at", user, house)


def write_address(address):
    """The text of an address."""
    _, user, house = address
    return f"{user}@{house}"


def read_addresses(text):
    """The addresses of a list, a tuple."""
    if text.strip(" ") == "":
        return ()
    return tuple([read_address(piece) for piece in text.split(",")])


def write_addresses(addresses):
    """The text of a list of addresses."""
    return ", ".join([write_address(address) for address in addresses])
