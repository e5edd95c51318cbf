"""Charts for the tests, and a slow way to their fabrics that shares nothing with the program."""

import random

EXAMPLE = [
    ("work", "right", [("tuck", "a")] * 3),
    ("work", "left", [("knit", "a"), ("purl", "a"), ("purl", "a")]),
    ("move", [(1, "left")]),
    ("work", "right", [("join", 2, "left", "knit", "b"), ("pass",)]),
]

EXAMPLE_FABRIC = (
    [
        (("a", 0), "tuck", [], []),
        (("a", 1), "tuck", [], []),
        (("a", 2), "tuck", [], []),
        (("a", 3), "purl", [("a", 2)], [("a", 2)]),
        (("a", 4), "purl", [("a", 1)], [("a", 1)]),
        (("a", 5), "knit", [("a", 0)], [("a", 0)]),
        (("b", 0), "knit", [("a", 5), ("a", 3)], [("a", 5), ("a", 3)]),
    ],
    [(("a", 3), ("a", 4), [("a", 4)])],
    [[("b", 0)], [("a", 4)]],
    [],
)

# Yarns may be called like the words of a command, and are ordered like words, not by length.
YARNS = ["a", "ab", "b", "knit", "purl", "left", "right", "tuck", "join", "pass", "drop", "move", "zzzzzzzz"]


def random_charts(seed, many):
    """Right charts of all lines and commands; the same ones for the same seed."""
    source = random.Random(seed)
    return [random_chart(source) for _ in range(many)]


def random_chart(source):
    """A right chart that begins with a row of tucks."""
    width = source.randint(1, 7)
    yarns = source.sample(YARNS, source.randint(1, 3))
    chart = [("work", source.choice(["right", "left"]), [("tuck", source.choice(yarns)) for _ in range(width)])]
    for _ in range(source.randint(0, 8)):
        if source.random() < 0.4:
            many = source.randint(0, 5) if width > 1 else 0
            chart.append(("move", [(source.randrange(width - 1), random_way(source)) for _ in range(many)]))
        else:
            commands = random_commands(source, width, yarns)
            chart.append(("work", random_way(source), commands))
            width = sum(command[0] != "drop" for command in commands)
    return chart


def random_commands(source, width, yarns):
    """Commands that take all columns of a row of this width."""
    commands = []
    while width > 0:
        word = source.choice(["knit", "purl", "tuck", "join", "join", "pass", "drop"])
        yarn = source.choice(yarns)
        if word == "join" and width > 1:
            many = source.randint(2, min(4, width))
            commands.append(("join", many, random_way(source), source.choice(["knit", "purl"]), yarn))
            width -= many
        elif word == "tuck":
            commands.append(("tuck", yarn))
        elif word != "join":
            commands.append((word,) if word in ("pass", "drop") else (word, yarn))
            width -= 1
    return commands


def random_way(source):
    """Left or right."""
    return source.choice(["left", "right"])


def steady_chart(seed, lines, width):
    """A right chart whose rows all have this width, though their lines close and open columns."""
    source = random.Random(seed)
    chart = [("work", "right", [("tuck", "a")] * width)]
    for _ in range(lines):
        if source.random() < 0.2:
            columns = [source.randrange(width - 1) for _ in range(width // 3)] if width > 1 else []
            chart.append(("move", [(column, random_way(source)) for column in columns]))
        else:
            chart.append(("work", random_way(source), steady_commands(source, width)))
    return chart


def steady_commands(source, width):
    """Commands that take and leave a row of this width: a tuck for each column that a join or drop closes."""
    commands, missing = [], 0
    while width > 0:
        word = source.choice(["knit", "knit", "knit", "purl", "purl", "pass", "join", "drop"])
        many = source.randint(2, 4) if word == "join" else 1
        if many <= width:
            yarn = source.choice(["a", "b"])
            kinds = {"join": ("join", many, random_way(source), source.choice(["knit", "purl"]), yarn)}
            commands.append(kinds.get(word, (word,) if word in ("pass", "drop") else (word, yarn)))
            missing += {"join": many - 1, "drop": 1}.get(word, 0)
            width -= many
        if missing and (width == 0 or source.random() < 0.5):
            commands += [("tuck", source.choice(["a", "b"]))] * missing
            missing = 0
    return commands


def slow_fabric(chart):
    """The fabric of a chart: every loop is first called by its line and command, and gets its name at the end."""
    row, made, crossed, dropped = [], [], [], []
    for k, line in enumerate(chart):
        if line[0] == "move":
            for column, over in line[1]:
                a, b = row[column:column + 2]
                crossed.append((a, b, a if over == "left" else b))
                row = row[:column] + [b, a] + row[column + 2:]
        else:
            new = []
            for n, command in enumerate(line[2]):
                many = {"join": command[1] if len(command) == 5 else 0, "tuck": 0}.get(command[0], 1)
                taken, row = row[:many], row[many:]
                if command == ("drop",):
                    dropped += taken
                elif command == ("pass",):
                    new += taken
                else:
                    time = n if line[1] == "right" else -n
                    made.append((command[-1], k, time, (k, n), command, taken))
                    new.append((k, n))
            row = new
    return named_fabric(row, made, crossed, dropped)


def named_fabric(row, made, crossed, dropped):
    """The fabric with the names of the loops in the place of their lines and commands."""
    names, loops = {}, []
    for yarn, _, _, at, command, taken in sorted(made):
        names[at] = (yarn, sum(name[0] == yarn for name in names.values()))
    for yarn, _, _, at, command, taken in sorted(made):
        place = [names[under] for under in taken]
        joined = command[0] == "join"
        depth = list(reversed(place)) if joined and command[2] == "right" else list(place)
        loops.append((names[at], command[3] if joined else command[0], depth, place))
    pairs = sorted({tuple(sorted([names[a], names[b]])) for a, b, _ in crossed})
    overs = [(p, q, [names[over] for a, b, over in crossed if {names[a], names[b]} == {p, q}]) for p, q in pairs]
    return (loops, overs, [[names[at]] for at in row], sorted(names[at] for at in dropped))
