"""Point [1]: every name stands in the module that the interface lists, with its arguments."""

import importlib
import inspect
import unittest

from owncuts.grounds import Ground
from support import CALLS, right_arguments, same_kind_and_worth
from test_errors import WITH_VALUE, WITHOUT_VALUE

INTERFACE = {
    "owncuts.errors": ["CutError"] + WITH_VALUE + WITHOUT_VALUE,
    "owncuts.periods": [
        "periods(text)", "has_period(text, period)", "least_period(word)", "borders(text)", "root(word)",
        "many_primitives(signs, length)", "meeting_length(one, other)", "two_period_word(one, other)",
        "is_two_period_word(one, other, value)", "stretches(text, below, least)",
    ],
    "owncuts.grounds": [
        "Ground(signs, gap)", "windows(ground)", "own_windows(ground)", "is_own(ground, window)", "many_own(ground)",
        "distances(ground, one, other)", "are_near(ground, one, other)", "near_ones(ground, window)",
        "near_text(ground, one, other)", "is_near_text(ground, one, other, value)", "next_ones(ground, window)",
        "lone_rings(ground)",
    ],
}


class Interface(unittest.TestCase):
    def test_each_name_is_defined_in_its_module(self):
        for place, names in INTERFACE.items():
            module = importlib.import_module(place)
            for name in names:
                self.assertEqual(getattr(module, name.partition("(")[0]).__module__, place, name)

    def test_each_name_has_its_arguments(self):
        for place, names in INTERFACE.items():
            module = importlib.import_module(place)
            for name in [name for name in names if "(" in name]:
                word = name.partition("(")[0]
                self.assertEqual(word + str(inspect.signature(getattr(module, word))), name)

    def test_methods_of_a_ground_stand_in_its_class(self):
        for name in ["signs", "gap", "width", "__eq__"]:
            self.assertIn(name, vars(Ground))
        for name in ["signs", "gap", "width"]:
            self.assertEqual(str(inspect.signature(getattr(Ground, name))), "(self)")

    def test_all_calls_of_the_interface_are_tested(self):
        listed = [name for place in ["owncuts.periods", "owncuts.grounds"] for name in INTERFACE[place]]
        tested = [f"{call.__name__}({', '.join(row[0] for row in rows)})" for call, rows in CALLS]
        self.assertEqual(sorted(tested), sorted(listed))

    def test_arguments_by_position_and_by_name(self):
        for call, parameters in CALLS:
            told = call(*right_arguments(parameters))
            named = {name: good for name, good, _, _ in reversed(parameters)}
            first = parameters[0][0]
            mixed = {name: good for name, good in named.items() if name != first}
            if call is Ground:
                self.assertEqual(told, call(**named))
            else:
                self.assertTrue(same_kind_and_worth(told, call(**named)), call)
                self.assertTrue(same_kind_and_worth(told, call(named[first], **mixed)), call)


if __name__ == "__main__":
    unittest.main()
