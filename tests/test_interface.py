"""The interface: names, arguments, where each function and class is defined, and which functions are generators."""

import importlib
import inspect

from tests.base import Case

FUNCTIONS = {
    "trees": """node_worths(lattice, tree); plain_worth(lattice, tree); refilled_tree(tree, worths); turned_tree(tree);
        subtree_at(tree, node); tree_of(rules, position); same_shape(one, other)""",
    "roads": """position_at(rules, position, road); moves_along(rules, position, road); road_by(rules, position, moves);
        plays_of(rules, position)""",
    "webs": """web_worths(lattice, web); ways_to(web); plays_from(web); worth_by_positions(lattice, rules, position);
        count_plays(rules, position)""",
    "contexts": """check_context(lattice, context); root_context(lattice); value_in(lattice, context, worth);
        ends_of(lattice, context); hangs(lattice, context); same_map(lattice, one, other);
        context_in(lattice, sign, context, so_far); nested_context(lattice, outer, inner);
        plain_context(lattice, context); turned_context(lattice, context); nesting_fault(lattice);
        parted_primes(lattice, context); agree_under(lattice, context, one, other); serves(lattice, kept, wanted)""",
    "ways": """context_along(lattice, way, context=None); way_to(lattice, tree, leaf); leaf_context(lattice, tree, leaf);
        neutral_row(lattice, tree, leaf)""",
    "cutting": """plain_search(lattice, tree); parent_search(lattice, tree); cut_search(lattice, tree, context=None);
        cut_steps(lattice, tree, context=None)""",
    "hanging": """hanging_leaves(lattice, tree); doubt_at(lattice, tree, leaf); doubt_fault(lattice, tree, leaf, doubt);
        why_passed(lattice, tree, leaf)""",
    "askers": "run_asking(asking, picks); finish_asking(asking)",
    "enough": """check_lot(tree, lot); lot_bounds(lattice, tree, lot); is_enough(lattice, tree, lot);
        irreducible_lot(lattice, tree, lot); least_enough(lattice, tree); lot_asked(lattice, tree, order)""",
    "spans": "span_of(lattice, context, worth)",
    "kepts": """memory_search(lattice, rules, position, context, memory=None); memory_fault(lattice, rules, memory)""",
    "grounds": "ground_node(ground, road); plain_told(lattice, ground, node)",
}
GENERATORS = ("plays_of", "cut_steps")
GROUND = """root_node(self); is_end(self, node); end_told(self, node); sign_of(self, node); children_of(self, node);
    key_of(self, node); ground_at(self, node)"""
# The class, its arguments, its methods, its properties.
CLASSES = {
    "trees": [("Tree(shape)", """road_of(self, node); node_at(self, road); is_leaf(self, node);
        leaves_under(self, node); __len__(self); __eq__(self, other)""", "tree_depth")],
    "webs": [("Web(rules, position)", "number_of(self, position); __len__(self)", "levels"),
             ("Settling(lattice, web)", "settle_one(self, number); ready_now(self)", "settled_order is_done")],
    "found": [("Found(worth, asked, passed)", "__eq__(self, other)", "")],
    "hanging": [("Doubt(low, high, low_worth, high_worth)", "__eq__(self, other)", ""),
                ("Passing(way, context)", "__eq__(self, other)", "")],
    "askers": [("Asking(lattice, tree)", """ask_leaf(self, leaf); note_leaf(self, leaf, worth); kept_at(self, leaf);
        hanging_now(self); bounds_at(self, road); context_at(self, road); root_bounds(self); root_told(self)""",
                "is_done")],
    "enough": [("Within(asked, whole)", "__eq__(self, other)", "")],
    "spans": [("Spans(lattice)", """keep_look(self, position, context, worth); look_up(self, position, context);
        span_at(self, position); forget_look(self, at); __len__(self)""", "span_rows")],
    "memory": [("Memory(lattice, room, *, rule='newest', picks=())", """keep_look(self, position, context, worth);
        look_up(self, position, context); forget_look(self, at); __len__(self)""", "")],
    "kepts": [("Looked(worth, asked, served)", "__eq__(self, other)", "")],
    "grounds": [("TreeGround(tree, start=0)", GROUND, ""), ("GameGround(rules, position=None)", GROUND, "")],
}


def listed(text):
    """The couples (name, arguments) of a list of calls."""
    calls = [" ".join(call.split()) for call in text.split(";")]
    return [(call[:call.index("(")], call[call.index("("):]) for call in calls]


class TestInterface(Case):
    def test_functions(self):
        for module, text in FUNCTIONS.items():
            found = importlib.import_module(f"cutworths.{module}")
            for name, arguments in listed(text):
                function = getattr(found, name)
                self.assertTrue(inspect.isfunction(function), name)
                self.assertEqual(function.__module__, f"cutworths.{module}")
                self.assertEqual(str(inspect.signature(function)), arguments, name)
                self.assertEqual(inspect.isgeneratorfunction(function), name in GENERATORS, name)

    def test_classes(self):
        for module, rows in CLASSES.items():
            found = importlib.import_module(f"cutworths.{module}")
            for head, methods, properties in rows:
                (name, arguments), = listed(head)
                made = getattr(found, name)
                self.assertTrue(inspect.isclass(made), name)
                self.assertEqual(made.__module__, f"cutworths.{module}")
                self.assertEqual(str(inspect.signature(made)), arguments, name)
                for method, wanted in listed(methods):
                    self.assertTrue(inspect.isfunction(vars(made)[method]), (name, method))
                    self.assertEqual(str(inspect.signature(vars(made)[method])), wanted, (name, method))
                for word in properties.split():
                    self.assertIsInstance(vars(made)[word], property, (name, word))
