"""Acts that were read, written as texts."""


def shown_act(act):
    return "\n".join([shown_row(row) for row in act])


def shown_row(row):
    if row[0] == "fact":
        words = ["fact", row[1]]
    elif row[0] == "open":
        words = ["open", row[1], "for"] + list(row[2]) + ["against"] + list(row[3])
    else:
        words = [row[0], row[1], "if", shown_part(row[2])]
    return " ".join(words)


# A saying or an asking as it is written.
def shown_part(part):
    kind = part[0]
    if kind == "is":
        return part[1]
    if kind == "at":
        return part[1] if part[2] == 1 else " ".join([part[1], ">=", str(part[2])])
    if kind in ("and", "or"):
        return " ".join(["(", shown_part(part[1]), kind, shown_part(part[2]), ")"])
    return " ".join([kind, shown_part(part[1])])
