"""Linear forms in the lengths of lists and the rounds done, and their domains."""

from owedanswers.errors import BadDomain, BadSymbol

LETTERS = "abcdefghijklmnopqrstuvwxyz"
DIGITS = "0123456789"
MOST_LETTERS = 3
MOST_DIGITS = 60
LENGTH_WORDS = ("any", "none", "some")
ROUND_WORDS = ("first", "any")
PART_DIGITS = 64
PART = 10 ** 64


def is_list_name(text):
    """Whether a string is the name of a list."""
    return 1 <= len(text) <= MOST_LETTERS and all([letter in LETTERS for letter in text])


def is_round_symbol(text):
    """Whether a string is the symbol of the rounds done of a row."""
    number = text[1:]
    if not text.startswith("r") or not 1 <= len(number) <= MOST_DIGITS:
        return False
    if number.startswith("0") and number != "0":
        return False
    return all([digit in DIGITS for digit in number])


def is_symbol(text):
    """Whether a string is a symbol."""
    return is_list_name(text) or is_round_symbol(text)


def _digits(number):
    """The decimal digits of an integer that is at least 0."""
    parts = []
    # Python writes only integers of up to some thousand digits at once.
    while number >= PART:
        number, part = divmod(number, PART)
        parts.append(str(part).zfill(PART_DIGITS))
    parts.append(str(number))
    return "".join(parts[::-1])


def _part(coefficient, symbol):
    """A coefficient without its sign, and its symbol."""
    size = abs(coefficient)
    if size == 1:
        return symbol
    return f"{_digits(size)}*{symbol}"


def _joined(parts):
    """The text of pairs (number, what is written of it without its sign)."""
    signed = "".join([f" - {text}" if number < 0 else f" + {text}" for number, text in parts])
    body = signed[3:]
    if signed.startswith(" - "):
        return f"-{body}"
    return body


def fits_length(word, length):
    """Whether a list of this word may have this length."""
    if word == "none":
        return length == 0
    if word == "some":
        return length >= 1
    return length >= 0


def _fits_round(word, done, length):
    """Whether so many rounds may be done of a list of this length."""
    if word == "first":
        return done == 0
    return 0 <= done < length


class Form:
    """An integer and an integer coefficient for each of some symbols."""

    def __init__(self, constant=0, **coefficients):
        for symbol in sorted(coefficients):
            if not is_symbol(symbol):
                raise BadSymbol(symbol)
        self.constant = constant
        self._coefficients = {symbol: many for symbol, many in coefficients.items() if many != 0}

    @classmethod
    def of(cls, constant, pairs):
        """The form of pairs (symbol, coefficient); those of one symbol are added."""
        table = {}
        for symbol, many in pairs:
            if not is_symbol(symbol):
                raise BadSymbol(symbol)
            table[symbol] = table.get(symbol, 0) + many
        return Form(constant, **table)

    def symbols(self):
        """The symbols with a coefficient other than 0, ascending."""
        return sorted(self._coefficients)

    def _pairs(self):
        """The symbols, ascending, with their coefficients."""
        return [(symbol, self._coefficients[symbol]) for symbol in self.symbols()]

    def written(self):
        """The form as a tuple (constant, pairs)."""
        return (self.constant, tuple(self._pairs()))

    def put(self, symbol, other):
        """The form with another one in the place of a symbol."""
        kept = [pair for pair in self._pairs() if pair[0] != symbol]
        return Form.of(self.constant, kept) + other * self[symbol]

    def __call__(self, values):
        return self.constant + sum([many * values.get(symbol, 0) for symbol, many in self._pairs()])

    def __contains__(self, x):
        return x in self._coefficients

    def __getitem__(self, at):
        return self._coefficients.get(at, 0)

    def __iter__(self):
        raise TypeError("forms are not iterated over")

    def __eq__(self, other):
        return (isinstance(other, Form) and self.constant == other.constant
                and self._coefficients == other._coefficients)

    def __add__(self, other):
        if isinstance(other, Form):
            return Form.of(self.constant + other.constant, self._pairs() + other._pairs())
        if isinstance(other, int):
            return Form.of(self.constant + other, self._pairs())
        return NotImplemented

    def __radd__(self, other):
        return self + other

    def __neg__(self):
        return self * -1

    def __sub__(self, other):
        return self + -other

    def __rsub__(self, other):
        return -self + other

    def __mul__(self, other):
        if isinstance(other, int):
            return Form.of(self.constant * other, [(symbol, many * other) for symbol, many in self._pairs()])
        return NotImplemented

    def __rmul__(self, other):
        return self * other

    def __str__(self):
        parts = [(many, _part(many, symbol)) for symbol, many in self._pairs()]
        if self.constant != 0 or not parts:
            parts.insert(0, (self.constant, _digits(abs(self.constant))))
        return str(_joined(parts))


class Domain:
    """Which values the lengths of some lists and the rounds done may have."""

    def __init__(self, lengths, rounds=()):
        for name in sorted(lengths):
            if not is_list_name(name) or lengths[name] not in LENGTH_WORDS:
                raise BadDomain(name)
        self._lengths = dict(lengths)
        self._rounds = []
        for symbol, name, word in rounds:
            if not is_round_symbol(symbol) or symbol in self.symbols():
                raise BadDomain(symbol)
            if self._lengths.get(name) != "some" or word not in ROUND_WORDS:
                raise BadDomain(symbol)
            self._rounds.append((symbol, name, word))

    def symbols(self):
        """The names of the lists and the round symbols, ascending."""
        return sorted(list(self._lengths) + [entry[0] for entry in self._rounds])

    def __contains__(self, x):
        if sorted(x) != self.symbols():
            return False
        fits = [fits_length(word, x[name]) for name, word in self._lengths.items()]
        return all(fits) and all([_fits_round(word, x[symbol], x[name]) for symbol, name, word in self._rounds])

    def _slope(self, form, name):
        """By how much the least value grows with each further item of a list."""
        steps = [form[symbol] for symbol, owner, word in self._rounds if owner == name and word == "any"]
        return form[name] + sum([min(step, 0) for step in steps])

    def least(self, form):
        """The least value of a form, None if there is none."""
        total = form.constant
        for name, word in self._lengths.items():
            if word != "none" and self._slope(form, name) < 0:
                return None
            # In the shortest list no round can be done, so only its length counts.
            if word == "some":
                total = total + form[name]
        return total

    def greatest(self, form):
        """The greatest value of a form, None if there is none."""
        negated = self.least(-form)
        if negated is None:
            return None
        return -negated
