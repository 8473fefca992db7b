"""Rules as objects."""

from compassless.checks import require
from compassless.meaning import find_names, find_rule_step, find_way
from compassless.readings import find_rule
from compassless.rulechecks import require_view
from compassless.showing import rule_text


class Rule:
    """The rule that a text tells; it never changes."""

    def __init__(self, text):
        require(isinstance(text, str), "text")
        self._tree = find_rule(text)

    def way(self, view, figure=None):
        """The way that the rule gives for the view."""
        require_view(view, figure)
        return find_way(self._tree, find_names(self._tree, view, figure), view, figure)

    def reckon(self, view, figure=None):
        """The step of the way, (0, 0) for none."""
        require_view(view, figure)
        return find_rule_step(self._tree, view, figure)

    def shown(self):
        """The text of the rule as show_rule writes it."""
        return rule_text(self._tree)

    def told(self):
        """The tree of the rule."""
        return self._tree

    def __eq__(self, other):
        return isinstance(other, Rule) and self._tree == other._tree
