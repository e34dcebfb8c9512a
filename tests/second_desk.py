"""A second desk: rows are told by patterns, houses are kept as texts, and calls as all signs pressed in them so far."""

import re

import second
from menutree.errors import NoHouse
from menutree.houses import read_house

PATTERNS = {
    "house": r"house (?P<new>[^ \n]*)\n(?P<text>(?s:.*))",
    "drop": r"drop (?P<name>[^ ]*)",
    "show": r"show (?P<name>[^ ]*)",
    "call": r"call (?P<name>[^ ]*) (?P<hour>[^ ]*)",
    "press": r"press (?P<call>[^ ]*) (?P<signs>[^ ]*)",
    "hang": r"hang (?P<call>[^ ]*)",
    "row": r"row (?P<name>[^ ]*) (?P<hour>[^ ]*) (?P<out>[^ ]*)",
    "least": r"least (?P<name>[^ ]*) (?P<hour>[^ ]*)",
    "traps": r"traps (?P<name>[^ ]*) (?P<hour>[^ ]*)",
    "compare": r"compare (?P<name>[^ ]*) (?P<other>[^ ]*) (?P<hour>[^ ]*)",
    "names": r"names (?P<name>[^ ]*) (?P<room>[^ ]*)",
}


class SecondDesk:
    """Answers are pairs: "told" and a text, or the name of a refusal and its field, or None."""

    def __init__(self):
        self.texts = {}
        self.given = []

    def say(self, row):
        found = [(kind, re.fullmatch(pattern, row)) for kind, pattern in PATTERNS.items()] if isinstance(row, str) else []
        found = [(kind, match.groupdict()) for kind, match in found if match]
        if not found:
            return ("NoRow", None)
        kind, parts = found[0]
        refused = [self.refusal(what, word, parts) for what, word in parts.items()]
        refused = [name for name in refused if name]
        return (refused[0], None) if refused else getattr(self, "by_" + kind)(**parts)

    def refusal(self, what, word, parts):
        if what == "new":
            return None if re.fullmatch("[a-z]{1,8}", word) and word != "back" else "NoName"
        if what in ("name", "other"):
            return None if word in self.texts else "NoName"
        if what == "hour":
            return None if word in [str(hour) for hour in range(24)] else "NoHour"
        if what == "call":
            going = [str(number) for number, call in enumerate(self.given, 1) if call]
            return None if word in going else "NoCall"
        if what == "signs":
            return None if re.fullmatch("[0-9*#w]*", word) else "NoSigns"
        if what in ("out", "room"):
            # A house that is not there is refused already.
            text = self.texts.get(parts["name"], "")
            sort = "(hand|end)" if what == "out" else "names"
            return None if re.search(rf"^{sort} {re.escape(word)} ", text, re.MULTILINE) else "NoName"
        return None

    def by_house(self, new, text):
        try:
            faults = second.faults(read_house(text))
        except NoHouse as error:
            return ("NoHouse", error.row)
        if faults:
            return ("Faulty", faults)
        self.texts[new] = text
        return ("told", "ok")

    def by_drop(self, name):
        del self.texts[name]
        return ("told", "ok")

    def by_show(self, name):
        return ("told", self.texts[name])

    def by_call(self, name, hour):
        self.given.append((self.texts[name], int(hour), ""))
        return ("told", f"{len(self.given)} {self.heard(len(self.given))}")

    def by_press(self, call, signs):
        text, hour, row = self.given[int(call) - 1]
        self.given[int(call) - 1] = (text, hour, row + signs)
        return ("told", self.heard(int(call)))

    def heard(self, number):
        text, hour, row = self.given[number - 1]
        house = read_house(text)
        return "{} {}".format(*second.heard(house, second.walk(house, hour, row)[-1]))

    def by_hang(self, call):
        self.given[int(call) - 1] = None
        return ("told", "ok")

    def by_row(self, name, hour, out):
        rows = dict(second.ends(read_house(self.texts[name]), int(hour)))
        return ("told", rows.get(out, "none") or "-")

    def by_least(self, name, hour):
        return ("told", str(len(set(second.classes(read_house(self.texts[name]), int(hour))))))

    def by_traps(self, name, hour):
        rows = [row or "-" for state, row in second.traps(read_house(self.texts[name]), int(hour))]
        return ("told", " ".join(rows or ["none"]))

    def by_compare(self, name, other, hour):
        told = second.compare(read_house(self.texts[name]), read_house(self.texts[other]), int(hour))
        return ("told", "alike" if told[0] == "alike" else "apart " + (told[1] or "-"))

    def by_names(self, name, room):
        house = read_house(self.texts[name])
        words = [word for word, target in house["rooms"][room][2]]
        return ("told", " ".join("=".join(pair) for pair in second.beginnings(house["letters"], words)))
