"""Packs as texts: `armed:3 late`, and - for the empty pack."""

from likebook.errors import NoPack
from likebook.packs import pack


def number_of(figures):
    # 10 ** 30 has 31 figures; int itself fails on texts of some thousand figures, so they are kept from it.
    if not 1 <= len(figures) <= 31:
        return None
    if not all([("0" <= sign <= "9") for sign in figures]):
        return None
    if figures[0] == "0" and len(figures) > 1:
        return None
    return int(figures)


def read_pair(word):
    cut = word.partition(":")
    if cut[1] == "":
        return (word, 1)
    # Figures that write no number leave None there, which pack refuses as no degree.
    return (cut[0], number_of(cut[2]))


def read_pack(text):
    if not isinstance(text, str):
        raise NoPack("what is no text writes no pack")
    if text == "-":
        return ()
    one = pack([read_pair(word) for word in text.split(" ")])
    # A name twice, another order, a degree of 0 or 1 written: pack takes them, but no pack is written so.
    if shown_pack(one) != text:
        raise NoPack("no pack is written so")
    return one


def shown_pair(name, amount):
    return name if amount == 1 else f"{name}:{amount}"


def shown_pack(one):
    if one == ():
        return "-"
    return " ".join([shown_pair(name, amount) for name, amount in one])
