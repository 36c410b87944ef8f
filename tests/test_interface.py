"""The interface: names, arguments, where each function and class is defined, and which functions are generators."""

import importlib
import inspect

from cutworths.askers import Asking
from cutworths.desk import Desk
from cutworths.engine import Engine
from cutworths.grounds import GameGround, TreeGround
from cutworths.hands import Pool
from cutworths.making import set_lattice
from cutworths.memory import Memory
from cutworths.positions import start_of
from cutworths.spans import Spans
from cutworths.trees import Tree
from cutworths.weaving import Weaving
from cutworths.webs import Web
from cutworths.worlds import World
from tests.base import Case
from tests.games import plain_rules

FUNCTIONS = {
    "lattices": "check_worth(lattice, worth)",
    "shapes": "is_distributive(lattice); find_shape(lattice); is_shape(lattice, shape)",
    "making": """chain_lattice(size); set_lattice(points); pentagon_lattice(); diamond_lattice(); turned_lattice(lattice);
        renamed_lattice(lattice, order); product_lattice(one, other); lattice_of_sets(sets);
        lower_lattice(points, couples); lower_sets(points, couples)""",
    "maps": """check_map(one, other, values); map_fault(one, other, values); keeps_ends(one, other, values);
        all_maps(one, other); prime_map(lattice, prime); prime_rows(lattice); prime_order(lattice)""",
    "worthtext": "lattice_text(lattice); read_lattice(text)",
    "boards": "chains_of(board, arrow, length)",
    "rules": """exchanged_rules(rules); led_cells(rules, order); renamed_rules(rules, kinds, arrows);
        led_worths(rules, row, worths)""",
    "living": "living_kinds(rules); idle_moves(rules); sure_of(rules, condition); trimmed_rules(rules)",
    "edits": "edited_rules(rules, edit); undo_edit(rules, edit)",
    "ruletext": "read_rules(text); print_rules(rules); read_edit(text); print_edit(edit)",
    "positions": """start_of(rules); exchanged_position(position); led_position(position, order);
        renamed_position(position, names, others)""",
    "moves": """moves_by(rules, position, move_rule); moves_of(rules, position); is_stuck(rules, position);
        after_move(rules, position, move); move_between(rules, position, other)""",
    "ends": """condition_holds(rules, position, condition); end_of(rules, position); end_worth(rules, position);
        open_moves(rules, position); next_positions(rules, position)""",
    "trees": """node_worths(lattice, tree); plain_worth(lattice, tree); refilled_tree(tree, worths); turned_tree(tree);
        subtree_at(tree, node); tree_of(rules, position); same_shape(one, other)""",
    "roads": """position_at(rules, position, road); moves_along(rules, position, road); road_by(rules, position, moves);
        plays_of(rules, position)""",
    "webs": """web_worths(lattice, web); ways_to(web); plays_from(web); worth_by_positions(lattice, rules, position);
        count_plays(rules, position)""",
    "contexts": """check_context(lattice, context); root_context(lattice); value_in(lattice, context, worth);
        ends_of(lattice, context); hangs(lattice, context); same_map(lattice, one, other);
        context_in(lattice, sign, context, so_far); nested_context(lattice, outer, inner);
        plain_context(lattice, context); turned_context(lattice, context); nesting_fault(lattice);
        parted_primes(lattice, context); agree_under(lattice, context, one, other); serves(lattice, kept, wanted)""",
    "ways": """context_along(lattice, way, context=None); way_to(lattice, tree, leaf); leaf_context(lattice, tree, leaf);
        neutral_row(lattice, tree, leaf)""",
    "cutting": """plain_search(lattice, tree); parent_search(lattice, tree); cut_search(lattice, tree, context=None);
        cut_steps(lattice, tree, context=None)""",
    "hanging": """hanging_leaves(lattice, tree); doubt_at(lattice, tree, leaf); doubt_fault(lattice, tree, leaf, doubt);
        why_passed(lattice, tree, leaf)""",
    "askers": "run_asking(asking, picks); finish_asking(asking)",
    "enough": """check_lot(tree, lot); lot_bounds(lattice, tree, lot); is_enough(lattice, tree, lot);
        irreducible_lot(lattice, tree, lot); least_enough(lattice, tree); lot_asked(lattice, tree, order)""",
    "spans": "span_of(lattice, context, worth)",
    "kepts": """memory_search(lattice, rules, position, context, memory=None); memory_fault(lattice, rules, memory)""",
    "grounds": "ground_node(ground, road); plain_told(lattice, ground, node)",
    "frametext": """state_text(state); read_state(text); state_fault(lattice, ground, state);
        told_fault(lattice, ground, state)""",
    "weaving": "woven_by(lattice, ground, depth, hands, picks, memory=None)",
    "judge": """judge_certificate(lattice, tree, certificate, which);
        judge_both(lattice, tree, floor, ceiling, worth)""",
    "certificates": """certificate_from(lattice, tree, lot, which); both_from(lattice, tree, lot);
        cited_leaves(lattice, tree, certificate, which); fewest_certificate(lattice, tree, bound, which)""",
    "goals": """rival_of(lattice, prime); question_of(lattice, prime); ask_prime(lattice, tree, prime);
        worth_by_primes(lattice, tree); stepped_worth(lattice, tree, guess);
        stepped_play(lattice, rules, position, guess, memory)""",
    "plans": """all_plans(tree, holder); worth_by_plans(lattice, tree, holder); plan_for(lattice, tree, prime);
        plan_fault(lattice, tree, prime, plan); walk_plan(tree, plan, picks); plan_ends(tree, plan)""",
    "playing": """policy_for(lattice, web, prime); policy_fault(lattice, web, policy); play_by(web, policy, picks)""",
    "bars": """bar_tree(lattice, shape, root); bar_game(lattice, root='meets'); wrong_cut(lattice, tree);
        told_row(lattice, tree); guarded_search(lattice, tree)""",
    "firm": "firm_worths(lattice); firm_image(lattice)",
    "worlds": "led_along(row, tree); joined_rules(rules_row)",
    "deeds": "check_deed(thing)",
    "stories": "print_deeds(deeds); read_deeds(text); put_away(desk); taken_up(text)",
}
GENERATORS = ("all_maps", "plays_of", "cut_steps")
GROUND = """root_node(self); is_end(self, node); end_told(self, node); sign_of(self, node); children_of(self, node);
    key_of(self, node); ground_at(self, node)"""
RESULT = "__eq__(self, other)"
# The class, its arguments, its methods, its properties.
CLASSES = {
    "lattices": [("Lattice(table)", """at_most(self, one, other); join_of(self, one, other); meet_of(self, one, other);
        join_all(self, worths); meet_all(self, worths); covers_of(self, worth); __eq__(self, other)""", "")],
    "shapes": [("Pentagon(low, lesser, greater, aside, high)", RESULT, ""),
               ("Diamond(low, first, second, third, high)", RESULT, "")],
    "boards": [("Board(size, arrows)", RESULT, "")],
    "rules": [("Rules(board, kinds, moves, ends, last, left, start, side, worths)", RESULT, "kind_names")],
    "trees": [("Tree(shape)", """road_of(self, node); node_at(self, road); is_leaf(self, node);
        leaves_under(self, node); __len__(self); __eq__(self, other)""", "tree_depth")],
    "webs": [("Web(rules, position)", "number_of(self, position); __len__(self)", "levels"),
             ("Settling(lattice, web)", "settle_one(self, number); ready_now(self)", "settled_order is_done")],
    "found": [("Found(worth, asked, passed)", "__eq__(self, other)", "")],
    "hanging": [("Doubt(low, high, low_worth, high_worth)", "__eq__(self, other)", ""),
                ("Passing(way, context)", "__eq__(self, other)", "")],
    "askers": [("Asking(lattice, tree)", """ask_leaf(self, leaf); note_leaf(self, leaf, worth); kept_at(self, leaf);
        hanging_now(self); bounds_at(self, road); context_at(self, road); root_bounds(self); root_told(self)""",
                "is_done")],
    "enough": [("Within(asked, whole)", "__eq__(self, other)", "")],
    "spans": [("Spans(lattice)", """keep_look(self, position, context, worth); look_up(self, position, context);
        span_at(self, position); forget_look(self, at); __len__(self)""", "span_rows")],
    "memory": [("Memory(lattice, room, *, rule='newest', picks=())", """keep_look(self, position, context, worth);
        look_up(self, position, context); forget_look(self, at); __len__(self)""", "")],
    "kepts": [("Looked(worth, asked, served)", "__eq__(self, other)", "")],
    "grounds": [("TreeGround(tree, start=0)", GROUND, ""), ("GameGround(rules, position=None)", GROUND, "")],
    "engine": [("Engine(lattice, ground, context=None, memory=None)", """engine_state(self); step_once(self);
        go_steps(self, many); finish_all(self); cut_text(self)""", "")],
    "hands": [("Job(number, hand, road, context)", RESULT, ""),
              ("Pool(lattice, ground, depth)", """spot_bounds(self, road); spot_context(self, road); hanging_spots(self);
        take_job(self, hand); drop_job(self, number); give_job(self, number, worth)""", "is_done")],
    "weaving": [("Weaving(lattice, ground, depth, hands, memory=None)", """turn_hand(self, hand); leave_job(self, hand);
        woven_worth(self); put_away(self)""", "is_done")],
    "goals": [("Answer(prime, yes, asked)", RESULT, ""),
              ("Answers(worth, answers)", "__eq__(self, other); __len__(self); __iter__(self)", "")],
    "plans": [("Plan(holder, certificate)", RESULT, "")],
    "playing": [("Policy(prime, holder, choices)", RESULT, ""), ("Play(road, numbers, worth)", RESULT, "")],
    "bars": [("Wrong(told, worth, passed)", RESULT, "")],
    "firm": [("Image(lattice, row)", RESULT, "")],
    "worlds": [("World(lattices, trees)", """whole_worth(self, worths); parted_worths(self, worth); __eq__(self, other);
        __len__(self)""", "")],
    "desk": [("Desk(lattice, rules, room=8)", """do_deed(self, deed); trial_deeds(self, deeds); __eq__(self, other);
        __len__(self); __iter__(self)""", ""),
             ("Trial(tolds, refused)", RESULT, "")],
}
STATICS = {
    ("engine", "Engine"): """resumed(lattice, ground, state, memory=None); gone_on(lattice, ground, text, memory=None)""",
    ("weaving", "Weaving"): "taken_up(lattice, ground, text, memory=None)",
}
WITHOUT_EQUALITY = """webs.Web webs.Settling askers.Asking spans.Spans memory.Memory grounds.TreeGround grounds.GameGround
    engine.Engine hands.Pool weaving.Weaving""".split()


def listed(text):
    """The couples (name, arguments) of a list of calls."""
    calls = [" ".join(call.split()) for call in text.split(";")]
    return [(call[:call.index("(")], call[call.index("("):]) for call in calls]


class TestInterface(Case):
    def test_functions(self):
        for module, text in FUNCTIONS.items():
            found = importlib.import_module(f"cutworths.{module}")
            for name, arguments in listed(text):
                function = getattr(found, name)
                self.assertTrue(inspect.isfunction(function), name)
                self.assertEqual(function.__module__, f"cutworths.{module}")
                self.assertEqual(str(inspect.signature(function)), arguments, name)
                self.assertEqual(inspect.isgeneratorfunction(function), name in GENERATORS, name)

    def test_classes(self):
        for module, rows in CLASSES.items():
            found = importlib.import_module(f"cutworths.{module}")
            for head, methods, properties in rows:
                (name, arguments), = listed(head)
                made = getattr(found, name)
                self.assertTrue(inspect.isclass(made), name)
                self.assertEqual(made.__module__, f"cutworths.{module}")
                self.assertEqual(str(inspect.signature(made)), arguments, name)
                for method, wanted in listed(methods):
                    self.assertTrue(inspect.isfunction(vars(made)[method]), (name, method))
                    self.assertEqual(str(inspect.signature(vars(made)[method])), wanted, (name, method))
                for word in properties.split():
                    self.assertIsInstance(vars(made)[word], property, (name, word))

    def test_static_methods(self):
        for (module, name), text in STATICS.items():
            made = getattr(importlib.import_module(f"cutworths.{module}"), name)
            for method, wanted in listed(text):
                self.assertIsInstance(vars(made)[method], staticmethod)
                self.assertEqual(str(inspect.signature(getattr(made, method))), wanted, (name, method))

    def test_equality_where_the_interface_tells_it(self):
        for word in WITHOUT_EQUALITY:
            module, name = word.split(".")
            self.assertNotIn("__eq__", vars(getattr(importlib.import_module(f"cutworths.{module}"), name)), word)

    def test_every_module_is_there(self):
        for module in list(FUNCTIONS) + list(CLASSES) + ["errors"]:
            importlib.import_module(f"cutworths.{module}")
        self.assertEqual(len(set(FUNCTIONS) | set(CLASSES) | {"errors"}), 43)

    def test_attributes_are_set_when_an_object_is_created(self):
        lattice, tree, rules = set_lattice(2), Tree(("joins", (1, 2))), plain_rules()
        ground = TreeGround(tree)
        wanted = [(lattice, "size table bottom top join_rows meet_rows primes"), (rules.board, "size arrows"),
                  (rules, "board kinds moves ends last left start side worths"), (tree, "shape nodes parents leaves worths"),
                  (Web(rules, start_of(rules)), "positions nexts ends"), (Asking(lattice, tree), "lattice tree asked"),
                  (Spans(lattice), "lattice"), (Memory(lattice, 3), "lattice room rule looks"), (ground, "tree start"),
                  (GameGround(rules), "rules position"), (Engine(lattice, ground), "context asked frames told ended"),
                  (Pool(lattice, ground, 1), "spots upper known jobs"), (Weaving(lattice, ground, 1, 1), "pool asked"),
                  (World((lattice,), (tree,)), "lattices trees lattice tree"),
                  (Desk(lattice, rules), "lattice rules room made seen going saved log position")]
        for thing, names in wanted:
            for name in names.split():
                self.assertIn(name, vars(thing), thing.__class__)
        with self.assertRaises(TypeError):
            Memory(lattice, 3, "never")
