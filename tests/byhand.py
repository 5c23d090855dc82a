"""The document's own words of forms, bit by bit, and lists to try them on. It draws nothing from the program."""

import functools
import random
import re

BIG = 10 ** 59 + 7
LETTERS = "abcdefghijklmnop"


def product(members, given):
    """1 where each unknown of the set has the bit 1 at the GIVEN, else 0."""
    k = 0
    while 2 ** k <= members:
        if members // 2 ** k % 2 == 1 and given // 2 ** k % 2 == 0:
            return 0
        k += 1
    return 1


def worth(some, given):
    return sum(number * product(members, given) for members, number in some)


def table(some, many):
    return [worth(some, given) for given in range(2 ** many)]


def fault(some):
    """What keeps a value from being a form, or None."""
    if not isinstance(some, list):
        return "no list"
    for entry in some:
        if not isinstance(entry, tuple) or len(entry) != 2:
            return f"no tuple of two: {entry!r}"
        if type(entry[0]) is not int or type(entry[1]) is not int:
            return f"no whole numbers: {entry!r}"
        if entry[0] < 0 or entry[1] == 0:
            return f"no SET, or the NUMBER 0: {entry!r}"
    sets = [entry[0] for entry in some]
    if any(after <= ahead for ahead, after in zip(sets, sets[1:])):
        return "the SETs do not rise"
    return None


def some_lists(many, count, seed):
    """Lists of tuples in any order, with SETs twice and NUMBERs 0, the same ones at each run."""
    source = random.Random(seed)
    numbers = (0, 1, -1, 2, -2, 3, -7, BIG, -BIG, BIG + 1)
    lists = [[]]
    while len(lists) < count:
        length = source.randrange(1, 12)
        lists.append([(source.randrange(2 ** many), source.choice(numbers)) for place in range(length)])
    return lists


def some_forms(many, count, seed):
    """Forms, the same ones at each run."""
    source = random.Random(seed)
    numbers = (1, -1, 2, -2, 5, -7, BIG, -BIG)
    forms = [[], [(0, 1)], [(0, -BIG)]]
    while len(forms) < count:
        sets = sorted({source.randrange(2 ** many) for place in range(source.randrange(1, 10))})
        forms.append([(members, source.choice(numbers)) for members in sets])
    return forms


def bit(given, k):
    return given // 2 ** k % 2


def moved_given(given, new, unknowns):
    """The GIVEN at which each of the unknowns k has the bit that new[k] has at the first one."""
    return sum(2 ** k * bit(given, new[k]) for k in unknowns)


def with_bit(given, k, its):
    """The GIVEN with another bit for the unknown k."""
    return given + (its - bit(given, k)) * 2 ** k


def some_yes_no(many, count, seed):
    """Yes-no forms, the same ones at each run, made from tables of 0 and 1 by the words of a product's worth."""
    source = random.Random(seed)
    forms = [[], [(0, 1)], [(1, 1)], [(0, 1), (1, -1)]]
    while len(forms) < count:
        weight = source.choice((0.2, 0.5, 0.9))
        forms.append(form_from([int(source.random() < weight) for given in range(2 ** many)]))
    return forms


def form_from(worths):
    """The form of a table: at each SET, what is lacking there once all lesser SETs are in."""
    form = []
    for given, wanted in enumerate(worths):
        lacking = wanted - worth(form, given)
        if lacking != 0:
            form.append((given, lacking))
    return form


def said(word, bits):
    """What a word says of its bits, written out."""
    ones = {"not": ("0",), "and": ("11",), "or": ("01", "10", "11"), "xor": ("01", "10")}
    return 1 if "".join(str(its) for its in bits) in ones[word] else 0


def statement_bit(statement, given):
    """1 or 0, as the words of the statement say at the GIVEN."""
    if statement[0] == "bit":
        return bit(given, statement[1])
    if statement[0] == "fix":
        return statement[1]
    return said(statement[0], [statement_bit(part, given) for part in statement[1:]])


def statement_bits(statement):
    """The unlike bits that the statement speaks of."""
    if statement[0] == "bit":
        return {statement[1]}
    if statement[0] == "fix":
        return set()
    return set().union(*(statement_bits(part) for part in statement[1:]))


def parts(statement):
    if statement[0] in ("bit", "fix"):
        return 1
    return 1 + sum(parts(part) for part in statement[1:])


def a_statement(source, size, bits):
    """A statement of just so many parts over the bits."""
    if size == 1:
        return source.choice([("bit", source.choice(bits)), ("bit", source.choice(bits)), ("fix", source.randrange(2))])
    if size == 2 or source.random() < 0.25:
        return ("not", a_statement(source, size - 1, bits))
    first = source.randrange(1, size - 1)
    word = source.choice(("and", "or", "xor"))
    return (word, a_statement(source, first, bits), a_statement(source, size - 1 - first, bits))


def some_statements(count, seed, most=40):
    """Statements of 1 to 40 parts with at most 8 unlike bits, the same ones at each run."""
    source = random.Random(seed)
    told = []
    while len(told) < count:
        bits = source.sample(range(16), source.randrange(1, 9))
        told.append(a_statement(source, source.randrange(1, most + 1), bits))
    return told


def statement_text(statement, spare=None):
    """The text of a statement; with a source for chances, more brackets round some of the parts and the whole."""
    word = statement[0]
    if word == "bit":
        text = "abcdefghijklmnop"[statement[1]]
    elif word == "fix":
        text = "01"[statement[1]]
    else:
        texts = [part_text(part, spare) for part in statement[1:]]
        text = f"not {texts[0]}" if word == "not" else f" {word} ".join(texts)
    while spare is not None and spare.random() < 0.3:
        text = f"({text})"
    return text


def part_text(part, spare):
    text = statement_text(part, spare)
    # A part that has got brackets already needs no others, but may have them.
    return f"({text})" if part[0] in ("and", "or", "xor") and not wrapped(text) else text


def wrapped(text):
    """Whether the first bracket of a text is closed by its last sign."""
    depth = 0
    for place, sign in enumerate(text):
        depth += {"(": 1, ")": -1}.get(sign, 0)
        if depth == 0:
            return sign == ")" and place == len(text) - 1
    return False


def read(text):
    """The statement that a text is, cut at its outermost and, or, xor, or None."""
    for word in ("and", "or", "xor"):
        place = text.find(f" {word} ")
        while place >= 0:
            ahead, behind = text[:place], text[place + len(word) + 2:]
            if ahead.count("(") == ahead.count(")"):
                left, right = read_part(ahead), read_part(behind)
                if left is not None and right is not None:
                    return (word, left, right)
            place = text.find(f" {word} ", place + 1)
    return read_part(text)


def read_part(text):
    if len(text) == 1 and text in "abcdefghijklmnop":
        return ("bit", ord(text) - ord("a"))
    if text in ("0", "1"):
        return ("fix", int(text))
    if text.startswith("not "):
        part = read_part(text[4:])
        return None if part is None else ("not", part)
    if text.startswith("(") and text.endswith(")"):
        return read(text[1:-1])
    return None


def tree_bit(tree, given):
    """What a choice tree tells at a GIVEN."""
    while isinstance(tree, tuple):
        tree = tree[1] if bit(given, tree[0]) == 1 else tree[2]
    return tree


def tree_size(tree):
    return 1 + tree_size(tree[1]) + tree_size(tree[2]) if isinstance(tree, tuple) else 0


def tree_depth(tree):
    return 1 + max(tree_depth(tree[1]), tree_depth(tree[2])) if isinstance(tree, tuple) else 0


def a_tree(source, size, unknowns):
    """A choice tree of just so many tuples, its unknowns in any order and twice on a way too."""
    if size == 0:
        return source.randrange(2)
    first = source.randrange(size)
    return (source.choice(unknowns), a_tree(source, first, unknowns), a_tree(source, size - 1 - first, unknowns))


def wire_bits(ins, rows, given):
    """The bits of all wires, gate by gate."""
    bits = [bit(given, k) for k in range(ins)]
    for row in rows:
        bits.append(row[1] if row[0] == "fix" else said(row[0], [bits[wire] for wire in row[1:]]))
    return bits


def whole_given(bits):
    """The GIVEN that gives unknown k the bit at place k."""
    return sum(2 ** k * its for k, its in enumerate(bits))


def some_rows(source, ins, count):
    """Rows of gates; a row that has no wire ahead of it is a fix."""
    rows = []
    while len(rows) < count:
        wires = ins + len(rows)
        word = source.choice(("fix", "not", "and", "or", "xor", "and", "or", "xor")) if wires else "fix"
        if word == "fix":
            rows.append(("fix", source.randrange(2)))
        elif word == "not":
            rows.append(("not", source.randrange(wires)))
        else:
            rows.append((word, source.randrange(wires), source.randrange(wires)))
    return rows


def word_worth(wires, below, bits):
    """What a list of wires is worth, read as a word, the bits of all wires being told."""
    told = sum(2 ** place * bits[wire] for place, wire in enumerate(wires))
    return told - 2 * 2 ** (len(wires) - 1) * bits[wires[-1]] if below and wires else told


def formula_worth(formula, given):
    if formula[0] == "number":
        return formula[1]
    if formula[0] == "word":
        return word_worth(formula[1], formula[2], [bit(given, k) for k in range(60)])
    one, other = (formula_worth(part, given) for part in formula[1:])
    return {"plus": one + other, "less": one - other, "times": one * other}[formula[0]]


def a_formula(source, size, ins):
    """A formula of at most so many parts over the inputs."""
    if size < 3:
        if source.random() < 0.3:
            return ("number", source.choice((0, 1, 2, 3, 7, 10 ** 12, source.randrange(10 ** 12))))
        length = source.choice((0, 1, 2, 3, 16)) if ins else 0
        return ("word", [source.randrange(ins) for place in range(length)], source.random() < 0.4)
    first = source.randrange(1, size - 1)
    word = source.choice(("plus", "less", "times"))
    return (word, a_formula(source, first, ins), a_formula(source, size - 1 - first, ins))


def claim_form(ins, claim):
    """The form of the claim's word less its formula, over the wires."""
    formula = form_from([formula_worth(claim[2], given) for given in range(2 ** ins)])
    told = {members: -number for members, number in formula}
    for place, wire in enumerate(claim[0]):
        sign = -1 if claim[1] and place == len(claim[0]) - 1 else 1
        told[2 ** wire] = told.get(2 ** wire, 0) + sign * 2 ** place
    return sorted((members, number) for members, number in told.items() if number != 0)


def gate_tuples(row):
    """The tuples of a gate over its own wires, written out."""
    if row[0] == "fix":
        return [(0, row[1])]
    one, other = 2 ** row[1], 2 ** row[-1]
    both = sum({one, other})
    return {"not": [(0, 1), (one, -1)], "and": [(both, 1)], "or": [(one, 1), (other, 1), (both, -1)],
            "xor": [(one, 1), (other, 1), (both, -2)]}[row[0]]


def steps(ins, rows, form):
    """The list of point 15: tuple by tuple, a row's wire makes room for its gate's tuples."""
    told = [form]
    for place in range(len(rows) - 1, -1, -1):
        wire, sums = 2 ** (ins + place), {}
        for members, number in told[-1]:
            has = bit(members, ins + place)
            for others, factor in gate_tuples(rows[place]) if has else [(0, 1)]:
                joined = members - has * wire | others
                sums[joined] = sums.get(joined, 0) + number * factor
        told.append(sorted((members, number) for members, number in sums.items() if number != 0))
    return told


def claim_holds(ins, rows, claim, given):
    wires, below, formula, rest = claim
    gap = word_worth(wires, below, wire_bits(ins, rows, given)) - formula_worth(formula, given)
    return gap == 0 if rest == 0 else gap % rest == 0


def first_wrong(ins, rows, claim):
    """The least GIVEN at which the claim does not hold, or None."""
    return next((given for given in range(2 ** ins) if not claim_holds(ins, rows, claim, given)), None)


class Builder:
    """Rows of gates as they are put together."""

    def __init__(self, ins):
        self.ins = ins
        self.rows = []

    def gate(self, *row):
        self.rows.append(row)
        return self.ins + len(self.rows) - 1

    def half(self, one, other):
        """The wires of the sum's low and high bit."""
        return self.gate("xor", one, other), self.gate("and", one, other)

    def full(self, one, other, third):
        low, high = self.half(one, other)
        lowest, second = self.half(low, third)
        return lowest, self.gate("or", high, second)

    def added(self, columns):
        """The wires of the bits of a sum; each column holds the wires of one place."""
        outs = []
        while len(outs) < len(columns):
            column = columns[len(outs)]
            while len(column) > 1:
                taken = [column.pop(0) for turn in range(min(3, len(column)))]
                low, high = self.half(*taken) if len(taken) == 2 else self.full(*taken)
                column.append(low)
                if len(columns) == len(outs) + 1:
                    columns.append([])
                columns[len(outs) + 1].append(high)
            outs.append(column[0])
        return outs


def adder(first, second):
    """The inputs, rows and outs that add two words of so many bits."""
    builder = Builder(first + second)
    columns = [[] for place in range(max(first, second))]
    for wire in range(first + second):
        columns[wire if wire < first else wire - first].append(wire)
    return builder.ins, builder.rows, builder.added(columns)


def multiplier(first, second):
    """The inputs, rows and outs that multiply two words of so many bits."""
    builder = Builder(first + second)
    columns = [[] for place in range(first + second - 1)]
    for one in range(first):
        for other in range(second):
            columns[one + other].append(builder.gate("and", one, first + other))
    return builder.ins, builder.rows, builder.added(columns)


def floor(form):
    return sum(number for members, number in form if number < 0) + max(0, dict(form).get(0, 0))


def got(form, k, its):
    """The form whose unknown k has got the bit."""
    sums = {}
    for members, number in form:
        if bit(members, k) <= its:
            without = members - bit(members, k) * 2 ** k
            sums[without] = sums.get(without, 0) + number
    return sorted((members, number) for members, number in sums.items() if number != 0)


def most_shown(form, paper):
    """The greatest number that a paper shows for a form, gone through to each of its ends."""
    if paper == 0:
        return floor(form)
    return min(most_shown(got(form, paper[0], 1), paper[1]), most_shown(got(form, paper[0], 0), paper[2]))


def a_paper(source, size, unknowns):
    """A paper of just so many tuples, its unknowns in any order and twice on a way too."""
    if size == 0:
        return 0
    first = source.randrange(size)
    return (source.choice(unknowns), a_paper(source, first, unknowns), a_paper(source, size - 1 - first, unknowns))


def twice_on_a_way(paper, ahead=()):
    """Whether an unknown comes twice on a way of a paper."""
    if paper == 0:
        return False
    return paper[0] in ahead or any(twice_on_a_way(part, ahead + (paper[0],)) for part in paper[1:])


def some_pulling(many, count, seed):
    """Forms over so many unknowns that pull together, the same ones at each run."""
    source = random.Random(seed)
    pairs = [2 ** one + 2 ** other for one in range(many) for other in range(one)]
    forms = []
    while len(forms) < count:
        great, share = source.choice((1, 2, 9, BIG)), source.random()
        told = {members: -source.randint(1, great) for members in pairs if source.random() < share}
        # Single unknowns that weigh about what the pairs do leave it open which bits make the least worth.
        for k in range(many):
            told[2 ** k] = source.randint(-great, great * max(1, round(many * share)))
        told[0] = source.choice((0, 0, 1, -1, BIG, -BIG))
        forms.append(sorted((members, number) for members, number in told.items() if number != 0))
    return forms


def product_worth(made_of, given):
    """The worth of a tuple (NUMBER, SET, TURNED) at a GIVEN."""
    number, members, turned = made_of
    return number if product(members, given) == 1 and given & turned == 0 else 0


@functools.cache
def most_asks(many, terms):
    """How many asks point 22 allows."""
    level = max((power for power in range(20) if 2 ** power <= terms), default=0)
    few = sum(1 for given in range(2 ** many) if sum(1 - bit(given, k) for k in range(many)) <= level)
    return (terms + 1) * (many + 1) * few


def cancelling(fixed_ones, turned, number):
    """The form of a product of unknowns, and of 1 less unknowns: it is worth 0 wherever one of the latter has 1."""
    form = [(fixed_ones, number)]
    for k in turned:
        form = form + [(members | 2 ** k, -own) for members, own in form]
    return sorted(form)


def letters(members):
    return "".join(LETTERS[k] for k in range(16) if bit(members, k))


def form_text(form):
    """The text of a form, put together tuple by tuple."""
    text = ""
    for members, number in form:
        if text:
            text += " - " if number < 0 else " + "
        elif number < 0:
            text = "-"
        figures = str(abs(number))
        text += letters(members) if figures == "1" and members else figures + letters(members)
    return text or "0"


# One tuple with its sign: the figures, then the letters, of which each comes once at most and in their order.
WRITTEN = " ([+-]) ((?:[1-9][0-9]*)?)(" + "".join(f"{letter}?" for letter in LETTERS) + ")"


def text_form(text):
    """The form that a text is, or None."""
    if text == "0":
        return []
    signed = f" - {text[1:]}" if text.startswith("-") else f" + {text}"
    if not re.fullmatch(f"(?:{WRITTEN})+", signed):
        return None
    form = []
    for sign, figures, its in re.findall(WRITTEN, signed):
        if figures + its == "" or figures == "1" and its:
            return None
        number = int(figures or "1")
        form.append((sum(2 ** LETTERS.index(letter) for letter in its), -number if sign == "-" else number))
    return form if fault(form) is None else None


NAME, NUMBER = "([a-z]{1,8})", "(0|[1-9][0-9]{0,17})"
LINES = (
    ("made", f"{NAME} = (plus|less|times) {NAME} {NAME}"), ("fixed", f"{NAME} = fixed {NAME} ([a-p]) ([01])"),
    ("put", f"{NAME} = put {NAME} ([a-p]) {NAME}"), ("none", f"{NAME} = (plus|less|times|fixed|put)( .*)?"),
    ("text", f"{NAME} = (.*)"), ("statement", f"{NAME} := (.*)"), ("show", f"show {NAME}"),
    ("worth", f"worth {NAME} {NUMBER}"), ("alike", f"alike {NAME} {NAME}"), ("none", "rest .* 0"),
    ("rest", f"rest {NAME} {NAME} {NUMBER}"), ("least", f"least {NAME}"), ("ways", f"ways {NAME}"),
    ("unknowns", f"unknowns {NAME}"), ("none", ".*"))


class Refused(Exception):
    """A refusal, told by its name."""


class Desk:
    """A desk that goes through all GIVENs; its forms should have few unknowns."""

    def __init__(self):
        self.forms = {}

    def say(self, line):
        """The answer, or the name of the refusal."""
        for kind, pattern in LINES:
            match = re.fullmatch(pattern, line, re.DOTALL)
            if match:
                break
        try:
            return getattr(self, f"say_{kind}")(*match.groups())
        except Refused as refusal:
            return str(refusal)

    def kept(self, name):
        if name not in self.forms:
            raise Refused("NoName")
        return self.forms[name]

    def keep(self, name, form):
        if len(form) > 300 or any(abs(number) >= 10 ** 1000 for members, number in form):
            raise Refused("TooMany")
        self.forms[name] = form
        return "ok"

    def keep_worths(self, name, worths, *forms):
        """Keeps the form of these worths, told for a GIVEN; it has unknowns of the forms alone."""
        return self.keep(name, form_from([worths(given) for given in givens(*forms)]))

    def yes_no(self, form):
        if any(worth(form, given) not in (0, 1) for given in givens(form)):
            raise Refused("NoYesNo")
        return form

    def say_none(self, *words):
        raise Refused("NoLine")

    def say_made(self, name, word, one, other):
        one, other = self.kept(one), self.kept(other)
        put = {"plus": int.__add__, "less": int.__sub__, "times": int.__mul__}[word]
        return self.keep_worths(name, lambda given: put(worth(one, given), worth(other, given)), one, other)

    def say_fixed(self, name, one, letter, its):
        form, k = self.kept(one), LETTERS.index(letter)
        return self.keep_worths(name, lambda given: worth(form, with_bit(given, k, int(its))), form)

    def say_put(self, name, one, letter, other):
        form, k, other = self.kept(one), LETTERS.index(letter), self.kept(other)
        self.yes_no(other)
        return self.keep_worths(name, lambda given: worth(form, with_bit(given, k, worth(other, given))), form, other)

    def say_text(self, name, text):
        form = text_form(text)
        if form is None:
            raise Refused("NoForm")
        return self.keep(name, form)

    def say_statement(self, name, text):
        statement = read(text)
        if statement is None:
            raise Refused("NoStatement")
        bits = statement_bits(statement)
        if len(bits) > 8:
            raise Refused("TooMany")
        return self.keep_worths(name, lambda given: statement_bit(statement, given), [(2 ** k, 1) for k in bits])

    def say_show(self, name):
        return form_text(self.kept(name))

    def say_worth(self, name, given):
        return str(worth(self.kept(name), int(given)))

    def say_alike(self, name, other):
        return self.first_unlike(self.kept(name), self.kept(other), lambda told: told)

    def say_rest(self, name, other, rest):
        return self.first_unlike(self.kept(name), self.kept(other), lambda told: told % int(rest))

    def first_unlike(self, one, other, seen):
        for given in givens(one, other):
            if seen(worth(one, given)) != seen(worth(other, given)):
                return str(given)
        return "yes"

    def say_least(self, name):
        form = self.few(self.kept(name))
        number, given = min((worth(form, given), given) for given in givens(form))
        return f"{number} {given}"

    def say_ways(self, name):
        form = self.few(self.yes_no(self.kept(name)))
        return str(sum(worth(form, given) for given in givens(form)))

    def few(self, form):
        if any(members >= 2 ** 10 for members, number in form):
            raise Refused("TooMany")
        return form

    def say_unknowns(self, name):
        form = self.kept(name)
        return "".join(letter for k, letter in enumerate(LETTERS) if any(bit(each[0], k) for each in form)) or "none"


def givens(*forms):
    """All GIVENs of the least number above all unknowns of the forms."""
    return range(2 ** max((members.bit_length() for form in forms for members, number in form), default=0))
