"""A desk: forms that are kept by names, made and asked for by lines."""

from onceform.changes import fixed, is_yes_no, put_in, unlike, unlike_by
from onceform.errors import NoName, NoYesNo, TooMany
from onceform.forms import less, plus, times, unknowns, worth
from onceform.least import least
from onceform.lines import line_read
from onceform.statements import bits_in, form_of_statement, read
from onceform.text import form_read, form_shown, shown_set
from onceform.trees import ways


class Desk:
    """Keeps forms by names and answers lines."""

    def __init__(self):
        self.forms = {}

    def say(self, line):
        """The answer to a line, or a refusal."""
        name, word, things = line_read(line)
        if name is None:
            return self.answer(word, things)
        form = self.form_for(word, things)
        refuse_great(form)
        self.forms[name] = form
        return "ok"

    def kept(self, name):
        """The form that stands by the name."""
        if name not in self.forms:
            raise NoName("nothing stands by the name")
        return self.forms[name]

    def form_for(self, word, things):
        """The form that a line tells for a name."""
        if word == "=":
            return form_read(things[0])
        if word == ":=":
            return form_of_text(things[0])
        form = self.kept(things[0])
        if word == "fixed":
            return fixed(form, things[1], things[2])
        if word == "put":
            return put_in(form, things[1], yes_no(self.kept(things[2])))
        return combined(word, form, self.kept(things[1]))

    def answer(self, word, things):
        """The answer to a line that asks."""
        form = self.kept(things[0])
        if word == "worth":
            return str(worth(form, things[1]))
        if word == "alike":
            return told_place(unlike(form, self.kept(things[1])))
        if word == "rest":
            return told_place(unlike_by(form, self.kept(things[1]), things[2]))
        return told_of(word, form)


def form_of_text(text):
    """The form of a statement that is written so."""
    statement = read(text)
    if len(bits_in(statement)) > 8:
        raise TooMany("a statement has more than 8 unlike bits")
    return form_of_statement(statement)


def yes_no(form):
    """The form itself, if it is a yes-no form."""
    if not is_yes_no(form):
        raise NoYesNo("a form is no yes-no form")
    return form


def combined(word, one, other):
    """The form of one plus, less or times other."""
    if word == "plus":
        return plus(one, other)
    if word == "less":
        return less(one, other)
    return times(one, other)


def refuse_great(form):
    """Refuses a form that is not kept."""
    if len(form) > 300:
        raise TooMany("a form has more than 300 tuples")
    # The least number of 1,001 figures.
    bound = (10 ** 50) ** 20
    if any([abs(number) >= bound for members, number in form]):
        raise TooMany("a number has more than 1,000 figures")


def told_of(word, form):
    """The answer to a line that asks for one form alone."""
    if word == "show":
        return form_shown(form)
    if word == "unknowns":
        return shown_set(unknowns(form)) or "none"
    if word == "ways":
        return str(ways(yes_no(form), few_unknowns(form)))
    found = least(form, few_unknowns(form))
    return str(found[0]) + " " + str(found[1])


def few_unknowns(form):
    """The least number above all unknowns of the form, if it is 10 or less."""
    many = unknowns(form).bit_length()
    if many > 10:
        raise TooMany("a form has unknowns beyond 9")
    return many


def told_place(given):
    """The answer for the least GIVEN at which two forms are unlike, or None."""
    return "yes" if given is None else str(given)
