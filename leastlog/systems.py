"""Systems: which forms are told by others, and what proves it."""

from leastlog.amounts import Amount
from leastlog.echelon import Echelon
from leastlog.errors import InvalidCosts, InvalidFlat, InvalidForm, InvalidForms
from leastlog.forms import Form
from leastlog.kinds import is_list, is_whole
from leastlog.rows import CONSTANT, is_absurd, row_of, share, symbols_of

# The mark of the form that is asked about: the others have the marks from 0 on.
ASKED = -1


class Telling:
    """Forms that tell others."""

    def __init__(self, forms):
        self._echelon = Echelon()
        self._size = 0
        for form in forms:
            self.include(form)

    def include(self, form):
        """Adds a form behind the others."""
        self._echelon.enter(form, self._size)
        self._size += 1

    def tells(self, form):
        """Whether a form is told by the forms."""
        return not symbols_of(self._echelon.reduced(row_of(form)))

    def weights_of(self, form):
        """The constant and the weights of the forms by which a form is told; None if it is not told."""
        row = self._echelon.reduced(row_of(form, ASKED))
        if symbols_of(row):
            return None
        return share(row, CONSTANT, ASKED), [-share(row, mark, ASKED) for mark in range(self._size)]


def form_rank(forms, flat=()):
    """The greatest number of forms of which none is told by the others on the flat."""
    check_forms(forms)
    check_flat(flat)
    echelon = solved(flat)
    rank = 0
    for form in forms:
        if symbols_of(echelon.enter(form)):
            rank += 1
    return rank


def lightest_base(forms, costs, flat=()):
    """The sorted list of the indexes of the lightest base of the forms on the flat."""
    check_forms(forms)
    check_costs(costs, len(forms))
    check_flat(flat)
    echelon = solved(flat)
    chosen = []
    for _, index in sorted([(costs[index], index) for index in range(len(forms))]):
        if symbols_of(echelon.enter(forms[index])):
            chosen.append(index)
    return sorted(chosen)


def combination(form, forms, flat=()):
    """The constant, weights and flat weights by which the form is told; None if it is not told."""
    check_form(form)
    check_forms(forms)
    check_flat(flat)
    told = Telling([*forms, *flat]).weights_of(form)
    if told is None:
        return None
    constant, weights = told
    return constant, weights[:len(forms)], weights[len(forms):]


def direction(form, forms, flat=()):
    """A direction along the forms on the flat at which the form goes up by 1; None if it is told."""
    check_form(form)
    check_forms(forms)
    check_flat(flat)
    echelon = solved([part.linear_part for part in [*forms, *flat]])
    row = echelon.reduced(row_of(form.linear_part, ASKED))
    symbols = symbols_of(row)
    if not symbols:
        return None
    step = {symbols[0]: Amount(row[ASKED], row[symbols[0]])}
    amounts = echelon.pivot_values(step)
    amounts.update(step)
    return {symbol: amounts[symbol] for symbol in sorted(amounts) if amounts[symbol].sign}


def solution(flat):
    """A point on the flat with exactly its symbols; None if there is none."""
    check_flat(flat)
    echelon = Echelon()
    for form in flat:
        if is_absurd(echelon.enter(form)):
            return None
    found = echelon.pivot_values({})
    return {symbol: found.get(symbol, Amount(0)) for symbol in symbols_in(flat)}


def contradiction(flat):
    """Amounts such that the forms of the flat, each times its amount, add up to 1; None if there are none."""
    check_flat(flat)
    echelon = Echelon()
    for mark, form in enumerate(flat):
        row = echelon.enter(form, mark)
        if is_absurd(row):
            return [share(row, other, CONSTANT) for other in range(len(flat))]
    return None


def solved(forms):
    """The echelon of forms."""
    echelon = Echelon()
    for form in forms:
        echelon.enter(form)
    return echelon


def symbols_in(forms):
    """The sorted list of the symbols of forms, each once."""
    return sorted({symbol: True for form in forms for symbol in form.symbols()})


def check_form(form):
    """Raises InvalidForm for a value that is no form."""
    if not isinstance(form, Form):
        raise InvalidForm(form)


def check_forms(forms):
    """Raises InvalidForms for a value that is no list of forms."""
    if not is_list_of_forms(forms):
        raise InvalidForms(first_no_form(forms))


def check_flat(flat):
    """Raises InvalidFlat for a value that is no list of forms."""
    if not is_list_of_forms(flat):
        raise InvalidFlat(first_no_form(flat))


def is_list_of_forms(value):
    """Whether any value is a list of forms."""
    return is_list(value) and all([isinstance(form, Form) for form in value])


def first_no_form(value):
    """The position of the first element that is no form; None if the value is no list."""
    if not is_list(value):
        return None
    return min([position for position, form in enumerate(value) if not isinstance(form, Form)])


def check_costs(costs, many):
    """Raises InvalidCosts for a value that is no list of this many costs."""
    if not is_list(costs) or len(costs) != many:
        raise InvalidCosts(None)
    for position, cost in enumerate(costs):
        if not is_whole(cost) or cost < 0:
            raise InvalidCosts(position)
