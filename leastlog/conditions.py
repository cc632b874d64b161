"""Conditions: what is said of the value of a form at a point."""

from leastlog.errors import InvalidForm
from leastlog.forms import Form


class Condition:
    """What all kinds of conditions share. Conditions never change; only those of a kind are created."""

    SIGN = ""

    def __init__(self, form):
        if not isinstance(form, Form):
            raise InvalidForm(form)
        self._form = form

    @property
    def form(self):
        """The form of which the condition speaks."""
        return self._form

    def holds_at(self, point):
        """Whether the condition holds at a point."""
        raise NotImplementedError("each kind has its own")

    def denied(self):
        """The condition that holds exactly where this one does not."""
        raise NotImplementedError("each kind has its own")

    def replaced(self, forms):
        """The condition of the same kind about the form with replaced symbols."""
        raise NotImplementedError("each kind has its own")

    def __eq__(self, other):
        return isinstance(other, Condition) and self.SIGN == other.SIGN and self._form == other._form

    def __str__(self):
        return f"{self._form} {self.SIGN} 0"

    def __repr__(self):
        return f"{self.__class__.__name__}({self._form})"


class Zero(Condition):
    """The form is 0."""

    SIGN = "="

    def holds_at(self, point):
        """Whether the form is 0 at the point."""
        return self._form.value_at(point).sign == 0

    def denied(self):
        """The form is not 0."""
        return NonZero(self._form)

    def replaced(self, forms):
        """The form with replaced symbols is 0."""
        return Zero(self._form.replaced(forms))


class NonZero(Condition):
    """The form is not 0."""

    SIGN = "!="

    def holds_at(self, point):
        """Whether the form is not 0 at the point."""
        return self._form.value_at(point).sign != 0

    def denied(self):
        """The form is 0."""
        return Zero(self._form)

    def replaced(self, forms):
        """The form with replaced symbols is not 0."""
        return NonZero(self._form.replaced(forms))


class Negative(Condition):
    """The form is below 0."""

    SIGN = "<"

    def holds_at(self, point):
        """Whether the form is below 0 at the point."""
        return self._form.value_at(point).sign < 0

    def denied(self):
        """The form is not below 0."""
        return NonPositive(-self._form)

    def replaced(self, forms):
        """The form with replaced symbols is below 0."""
        return Negative(self._form.replaced(forms))


class NonPositive(Condition):
    """The form is not above 0."""

    SIGN = "<="

    def holds_at(self, point):
        """Whether the form is not above 0 at the point."""
        return self._form.value_at(point).sign <= 0

    def denied(self):
        """The form is above 0."""
        return Negative(-self._form)

    def replaced(self, forms):
        """The form with replaced symbols is not above 0."""
        return NonPositive(self._form.replaced(forms))
