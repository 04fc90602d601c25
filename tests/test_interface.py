"""The interface: its names, their arguments, and the files in which they are defined."""

import importlib
import inspect
import unittest

FUNCTIONS = {
    "houses": "after(house, covered, coins)",
    "coins": """slate_number(house) number_of(house, goal) days_to(house, coins, goal) days_borne(house, liars, wipers)
        cover_row(house, coins, goal) closed_family(house, coins, goal) shows_cover_row(house, coins, goal, value)
        shows_closed_family(house, coins, goal, value) bears(house, liars, wipers) lot_bears(house, liars, wipers, goal)
        best_lots(house)""",
    "rules": """morning(house, rules, slates) course(house, rules, start, nights) tells(house, rules, liars)
        shows_two_courses(house, rules, liars, value) days_told(house, rules, liars) two_courses(house, rules, liars)
        could_be(house, rules, liars, evening, slates)""",
    "crews": """crew(house, least) crew_number(house) beside(one, other) with_sight(house, clerk, slate)
        best_sight(house) spare_sights(house)""",
    "texts": """house_text(house) rules_text(house, rules) nights_text(house, rules, nights) read_house(text)
        read_rules(house, text) read_nights(house, rules, text)""",
    "tales": "tale(house, rules, liars, value)",
    "strikers": """bound_number(house, goal, lot) bound_bears(house, liars, wipers, goal, lot)
        guards(house, liars, wipers)""",
    "schedules": """days_by(house, allowance, goal) least_rest(house, coins) row_by(house, allowance, goal)
        shows_row_by(house, allowance, goal, value) bears_by(house, enemy)""",
    "readers": "missed_number(house, missed) most_missed(house, liars, wipers) edge(house)",
}
CLASSES = {
    ("benches", "Bench"): ("(house, rules, start)", {"day": "(self, night)", "could_be": "(self, liars)"},
                           ("slates", "evening", "struck")),
    ("desks", "Desk"): ("(house, rules, start)", {"do": "(self, line)"}, ()),
}


def told(text):
    """The functions of a text, each as its name and its arguments."""
    return [word.strip().split("(") for word in text.split(")") if word.strip()]


class Interface(unittest.TestCase):
    def module(self, name):
        return importlib.import_module(f"nightslates.{name}")

    def test_functions(self):
        for file, text in FUNCTIONS.items():
            for name, arguments in told(text):
                function = getattr(self.module(file), name)
                self.assertTrue(inspect.isfunction(function), name)
                self.assertEqual(str(inspect.signature(function)), f"({arguments})", name)
                self.assertEqual(function.__module__, f"nightslates.{file}")

    def test_classes(self):
        for (file, name), (arguments, methods, properties) in CLASSES.items():
            some = getattr(self.module(file), name)
            self.assertEqual([some.__module__, str(inspect.signature(some))], [f"nightslates.{file}", arguments])
            for method, row in methods.items():
                self.assertEqual(str(inspect.signature(vars(some)[method])), row, (name, method))
            for word in properties:
                self.assertIsInstance(vars(some)[word], property, (name, word))
