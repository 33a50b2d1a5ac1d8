"""What the document says of texts and lives, told a second time and in another way, to compare the program with."""

import re

NAME = r"(?!(?:none|to|old|new|one|not)\b)[a-z]{1,4}"
NUMBER = r"(?:0|-?[1-9][0-9]{0,5})"
WHAT = rf"(?:old|new|one|{NAME})"
FORMS = [
    (0, "rest", rf"rest ({NAME})"),
    (1, "pass", rf"pass ({NAME})"),
    (2, "total", rf"total ({NAME})"),
    (3, "note", rf"note ({NAME})"),
    (4, "worth", rf"worth ({NAME}) ({NAME}) {NUMBER} (?:amount|one)(?: from ({NUMBER}))?(?: below ({NUMBER}))?"),
    (5, "event", rf"event ({NAME}) (none|{NAME}(?: {NAME})*) to (none|{NAME})( amount)?( group)?"),
    (6, "on", rf"on ({NAME})"),
    (6, "add", rf"add {NUMBER} ({WHAT}) ({NAME}) (?:old|new|noted)"),
    (6, "put", rf"put ({NAME}) ({WHAT})"),
    (6, "mark", r"mark (?:old|new|none)"),
    (6, "if", rf"if (?:not )*(?:was (none|{NAME})|old below {NUMBER}|new below {NUMBER}|moved|noted)"),
    (6, "else", r"else"),
    (6, "end", r"end"),
]


def first_wrong(lines):
    """The number of the first wrong line of a book, that of the lines if the text ends too early, or None."""
    stage, depth = 0, []
    names = {word: [] for word in ("rest", "pass", "total", "note", "event", "on")}
    for at, line in enumerate(lines):
        found = [(more, word, re.fullmatch(form, line)) for more, word, form in FORMS if re.fullmatch(form, line)]
        if not found or found[0][0] < stage or not fits(found[0][1], found[0][2].groups(), names, depth):
            return at
        stage = found[0][0]
    if depth or not names["rest"] or not names["total"] or not names["event"]:
        return len(lines)
    return None


def fits(word, told, names, depth):
    """Whether a line that has its form fits what is told so far; if so, it is told, too."""
    kinds = names["rest"] + names["pass"]
    whats = ["old", "new", "one", *names["note"]]
    if word in names and word != "on":
        if told[0] in names[word] or (word == "pass" and told[0] in names["rest"]):
            return False
        if word == "event":
            origins = told[1].split(" ")
            brings = (told[3] is not None, told[4] is not None)
            if len(set(origins)) < len(origins) or not set([*origins, told[2]]) <= {*kinds, "none"}:
                return False
            if (origins == ["none"] and brings != (True, True)) or (told[2] == "none" and brings != (False, False)):
                return False
        names[word].append(told[0])
        return True
    if word == "worth":
        bounded = told[2] is None or told[3] is None or int(told[2]) < int(told[3])
        return told[0] in names["total"] and told[1] in names["rest"] and bounded
    if word == "on":
        if depth or told[0] in names["on"] or told[0] not in names["event"]:
            return False
        names["on"].append(told[0])
        return True
    return bool(names["on"]) and fits_row(word, told, names, depth, kinds, whats)


def fits_row(word, told, names, depth, kinds, whats):
    """The same for a row of a handler."""
    if word == "add":
        return told[0] in whats and told[1] in names["total"]
    if word == "put":
        return told[0] in names["note"] and told[1] in whats
    if word == "if":
        depth.append("if")
        return told[0] is None or told[0] in [*kinds, "none"]
    if word == "else":
        if depth[-1:] != ["if"]:
            return False
        depth[-1] = "else"
    if word == "end":
        if not depth:
            return False
        depth.pop()
    return True


def lived(text, deeds):
    """What is told of a life that can be lived: the kind, the amount, the group, the notes, the noted group, and the
    sums of each statement in each group. The rows are done line by line, those of a block only if all tests hold."""
    lines = [line.split(" ") for line in text.split("\n")]
    events = {words[1]: words for words in lines if words[0] == "event"}
    kind, amount, group, noted = "none", 0, None, None
    notes = {words[1]: 0 for words in lines if words[0] == "note"}
    sums = {}
    for name, brought, place in deeds:
        words = events[name]
        behind = words[words.index("to") + 1]
        now = {"old": amount, "new": 0 if behind == "none" else amount if brought is None else brought, "one": 1}
        groups = {"new": group if place is None else place}
        groups["old"] = groups["new"] if kind == "none" else group
        number, on, done = -1, None, []
        for words in lines:
            number += words[0] == "add"
            on = words[1] if words[0] == "on" else on
            if words[0] == "if":
                below = {word: words[-2] == "below" and int(words[-1]) > now[word] for word in ("old", "new")}
                tests = {"was": kind == words[-1], "moved": groups["old"] != groups["new"],
                         "noted": noted == groups["new"], **below}
                denied = words.count("not")
                done.append(tests[words[1 + denied]] != (denied % 2 == 1))
            elif words[0] == "else":
                done[-1] = not done[-1]
            elif words[0] == "end":
                done.pop()
            elif on == name and all(done):
                told = {**now, **notes}
                if words[0] == "put":
                    notes[words[1]] = told[words[2]]
                elif words[0] == "mark":
                    noted = groups.get(words[1])
                elif words[0] == "add":
                    to = noted if words[4] == "noted" else groups[words[4]]
                    sums.setdefault(to, {}).setdefault(number, []).append(told[words[2]])
        kind, amount, group = behind, now["new"], groups["new"]
        if kind == "none":
            amount, group, noted, notes = 0, None, None, dict.fromkeys(notes, 0)
    many = sum(words[0] == "add" for words in lines)
    added = {to: tuple(sum(each.get(at, [])) for at in range(many)) for to, each in sums.items() if to is not None}
    return kind, amount, group, tuple(notes.values()), noted, added
