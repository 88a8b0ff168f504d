"""How a going goes along the clerk's parts."""

from likebook.packs import degree


def says_yes(part, things):
    if part[0] == "least":
        return degree(things[part[1]], part[2]) >= part[3]
    return degree(things[part[1]], part[3]) >= degree(things[part[2]], part[3])


def asked(parts, things):
    part = parts[-1]
    while part[0] != "told":
        part = parts[part[-1]] if says_yes(part, things) else parts[part[-2]]
    return part[1]
