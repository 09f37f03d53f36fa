"""Texts for the tests, texts that are one with them and codes of them, made without the program's own parts."""

WORDS = ("num", "add", "less", "times", "min", "read", "write", "out")
EVEN = ("add", "times", "min")

# Every word, two blocks, cells, both other finishes.
FULL = (
    ("main", ("x", "y"), (
        ("num", "n", 7),
        ("add", "s", "y", "x"),
        ("less", "d", "y", "x"),
        ("times", "t", "s", "d"),
        ("min", "m", "t", "n"),
        ("read", "r", "c"),
        ("write", "c", "m"),
        ("read", "q", "c"),
        ("out", "r"),
        ("out", "q"),
    ), ("when", "m", "main", ("q", "q"), "end", ("r",))),
    ("end", ("v",), (), ("stop", ("v",))),
)

# One of FULL for four registers: they are put again and again, 1 by a row whose end it is.
CODE = (
    ("main", (3, 0), (
        ("add", 1, 0, 3),
        ("less", 3, 0, 3),
        ("times", 1, 1, 3),
        ("num", 0, 7),
        ("min", 0, 0, 1),
        ("read", 2, "c"),
        ("write", "c", 0),
        ("out", 2),
        ("read", 3, "c"),
        ("out", 3),
    ), ("when", 0, "main", (3, 3), "end", (2,))),
    ("end", (1,), (), ("stop", (1,))),
)


def one_block(rows, takes=("x", "y"), finish=("stop", ())):
    return (("b", tuple(takes), tuple(rows), finish),)


def code_block(rows=(), places=(0, 1), finish=("stop", ()), name="b"):
    return (name, tuple(places), tuple(rows), finish)


def code(rows=(), places=(0, 1), finish=("stop", ())):
    return (code_block(rows, places, finish),)


def number_of_values(count):
    """As many names of values, unlike ones."""
    return tuple("v" + "abcdefghijklmnopqrstuvwxyz"[k] for k in range(count))


def ends_of(row):
    return {"num": (), "read": (), "write": row[2:], "out": row[1:]}.get(row[0], row[2:])


def cell_of(row):
    return {"read": row[-1], "write": row[1]}.get(row[0])


def hung(rows):
    """For each row the set of those that it hangs on, by the document's words."""
    found = []
    for at, row in enumerate(rows):
        on = set()
        for k in range(at):
            other = rows[k]
            if other[0] not in ("write", "out") and other[1] in ends_of(row):
                on.add(k)
            if cell_of(row) is not None and cell_of(row) == cell_of(other) and (row[0], other[0]) != ("read", "read"):
                on.add(k)
            if row[0] == other[0] == "out":
                on.add(k)
        found.append(on)
    return found


def random_block(chance, name, takes_by_name, rows, cells="cd", top=2):
    takes = ["t" + "uvwxyz"[k] for k in range(takes_by_name[name])]
    known = list(takes)
    made = []
    seen = set()
    writes = {cell: 0 for cell in cells}
    for _ in range(rows):
        word = chance.choice(WORDS)
        new = "m" + "abcdefghijklmn"[len(made)]
        if word == "num":
            row = (word, new, chance.randint(0, top))
            worth = (word, row[2])
        elif word == "read":
            row = (word, new, chance.choice(cells))
            worth = (word, row[2], writes[row[2]])
        elif not known:
            continue
        elif word in ("write", "out"):
            row = (word, chance.choice(cells), chance.choice(known)) if word == "write" else (word, chance.choice(known))
            worth = None
        else:
            pair = (chance.choice(known), chance.choice(known))
            row = (word, new) + pair
            worth = (word,) + (tuple(sorted(pair)) if word in EVEN else pair)
        if worth in seen:
            continue
        if worth is not None:
            seen.add(worth)
            known.append(new)
        if word == "write":
            writes[row[1]] += 1
        made.append(row)
    return (name, tuple(takes), tuple(made), random_finish(chance, known, takes_by_name))


def random_finish(chance, known, takes_by_name):
    def args(count):
        return tuple(chance.choice(known) for _ in range(count))

    names = [name for name in sorted(takes_by_name) if known or takes_by_name[name] == 0]
    word = chance.choice(["go", "when", "stop"]) if names else "stop"
    if word == "when" and not known:
        word = "stop"
    if word == "stop":
        return (word, args(chance.randint(0, 2) if known else 0))
    one, other = chance.choice(names), chance.choice(names)
    if word == "go":
        return (word, one, args(takes_by_name[one]))
    return (word, chance.choice(known), one, args(takes_by_name[one]), other, args(takes_by_name[other]))


def random_text(chance, blocks=2, rows=6, takes=2, cells="cd", top=2):
    takes_by_name = {"pqrstu"[k]: chance.randint(0, takes) for k in range(blocks)}
    return tuple(random_block(chance, name, takes_by_name, rows, cells, top) for name in takes_by_name)


def disguised(chance, text):
    """A text that is one with it: other names of values, another order, even ends swapped."""
    return tuple(disguised_block(chance, block) for block in text)


def disguised_block(chance, block):
    name, takes, rows, finish = block
    values = list(takes) + [row[1] for row in rows if row[0] not in ("write", "out")]
    fresh = ["".join(pair) for pair in zip("abcdefghijklmnopqrst", "tsrqponmlkjihgfedcba")]
    names = dict(zip(values, chance.sample(fresh, len(values))))
    on = hung(rows)
    order = []
    while len(order) < len(rows):
        order.append(chance.choice([k for k in range(len(rows)) if k not in order and on[k] <= set(order)]))
    return (name, led_args(takes, names), tuple(led_row(chance, rows[k], names) for k in order), led_finish(finish, names))


def led_row(chance, row, names):
    word = row[0]
    if word in ("num", "read"):
        return (word, names[row[1]], row[2])
    if word == "write":
        return (word, row[1], names[row[2]])
    if word == "out":
        return (word, names[row[1]])
    pair = [names[row[2]], names[row[3]]]
    if word in EVEN and chance.random() < 0.5:
        pair.reverse()
    return (word, names[row[1]], pair[0], pair[1])


def led_args(args, names):
    return tuple(names[value] for value in args)


def led_finish(finish, names):
    if finish[0] == "stop":
        return ("stop", led_args(finish[1], names))
    if finish[0] == "go":
        return ("go", finish[1], led_args(finish[2], names))
    return (
        "when", names[finish[1]], finish[2], led_args(finish[3], names), finish[4], led_args(finish[5], names),
    )


def finish_values_of(finish):
    if finish[0] == "when":
        return (finish[1],) + finish[3] + finish[5]
    return finish[-1]


def living_in(block, done):
    """The names of the values that live behind a set of rows, by the document's words."""
    _, takes, rows, finish = block
    found = set()
    for value in takes + tuple(rows[at][1] for at in done if rows[at][0] not in ("write", "out")):
        if value in finish_values_of(finish):
            found.add(value)
        if any(value in ends_of(row) for at, row in enumerate(rows) if at not in done):
            found.add(value)
    return found


def free_registers(block, done, holds, k):
    """The registers in which nothing lies that lives behind the set, of which the last row is just done."""
    lives = living_in(block, done) - {block[2][done[-1]][1]}
    return [place for place in range(k) if holds.get(place) not in lives]


def random_code(chance, text, k):
    """A code of the text for k registers; None where chance found none."""
    blocks = []
    for block in text:
        tries = (random_code_block(chance, block, k) for _ in range(20))
        blocks.append(next((found for found in tries if found is not None), None))
    return None if None in blocks else tuple(blocks)


def random_code_block(chance, block, k):
    name, takes, rows, finish = block
    if len(takes) > k:
        return None
    registers = tuple(chance.sample(range(k), len(takes)))
    place = dict(zip(takes, registers))
    holds = dict(zip(registers, takes))
    on = hung(rows)
    done = []
    told = []
    while len(done) < len(rows):
        done.append(chance.choice([at for at in range(len(rows)) if at not in done and on[at] <= set(done)]))
        row = rows[done[-1]]
        if row[0] not in ("write", "out"):
            free = free_registers(block, done, holds, k)
            if not free:
                return None
            place[row[1]] = chance.choice(free)
            holds[place[row[1]]] = row[1]
        told.append(led_row(chance, row, place))
    return (name, registers, tuple(told), led_finish(finish, place))


def nested(kind, deep):
    """A thing as deep as that: tuples, lists or dicts of one within one another."""
    thing = 0
    for _ in range(deep):
        thing = {"tuple": (thing,), "list": [thing], "dict": {"a": thing}}[kind]
    return thing


# Of every kind that the document names, to ask of anything.
THINGS = [
    None, True, False, 0, 1, -1, 6, 7, 12, 13, 10 ** 299, -10 ** 299, "", "a", "b", "main", "Main", "abcdefghi", " ", "~",
    "0", "a\nb\t", "x" * 19000, (), (0,), (1,), (None,), (True,), ((),), ((), ()), (0, ()), (0, ((),)), ("b",), ("b", ()),
    ("b", (), (), ()), ("b", (), (), ("stop", ())), (("b", (), (), ("stop", ())), 0), [], [0], [()], [[]], ["b"],
    {}, {"b": 1}, {0: 1}, {(): [1]}, {(): None}, {(): True}, {None: {}}, {True: 0}, {("a", (0,)): [{}]}, (0,) * 19999,
    [0] * 19999, nested("tuple", 19), nested("list", 19), nested("dict", 19), ([], {}), ({}, []), ([{}], ({},)),
]
