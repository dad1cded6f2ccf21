"""The interface: every name in its file, with its arguments by their names, defined there and nowhere else."""

from importlib import import_module
from inspect import isclass, isfunction, signature
from unittest import TestCase

CLASSES = {"errors": "NoPlace(place), NothingDone(), BadLine(line), CanNot(), TooMuch(), Unfit()"}

FUNCTIONS = {
    "heaps": """is_lot(thing, m), is_heap(thing), come_to(heap, starts), live(heap), dead(heap), ahead_of(heap, one),
        holders(heap, one), sight(heap, one), areas_of(heap, some), way(heap, starts, one),
        is_way(heap, starts, one, thing), cut_to(heap, some), dead_heap(heap), relaid(heap, areas)""",
    "programs": """is_deed(thing, m), can_do(heap, deed), done(heap, deed), run(heap, deeds), deaths(heap, deeds),
        script_of(heap)""",
    "parts": """part_of(heap, place), parts(heap), dead_parts(heap), is_part(heap, thing), is_ahead(heap, near, far),
        foremost(heap), part_row(heap), part_ties(heap), part_depth(heap, place), lots_ahead(heap, place),
        parts_without(heap, near, far), joints(heap), dies_without(heap, near, far), grips(heap, place)""",
    "books": """book(heap, area), books(heap), entries(heap, lot), look(heap, lot), same_look(heap, other, lot),
        is_blocks(heap, thing), block_entries(heap, lot, blocks), needless(heap, lot, blocks),
        harmful_lot(heap, blocks), stuck_by_blocks(heap, blocks), book_moves(heap, areas)""",
    "sweeps": """kept(heap, lot), freed(heap, lot), kept_dead(heap, lot), hold_of(heap, lot, one),
        is_hold(heap, lot, one, thing), shut_of(heap, lot, one), is_shut(heap, lot, one, thing),
        keepers(heap, lot, one), swept(heap, lot), numbers_behind(heap, lot)""",
    "leastlots": """need_of(heap, one), needs(heap), lot_for(heap, some), freed_too(heap, one), tight_lots(heap),
        tight_within(heap, lot), narrowest(heap), beyond(heap, many), most_freed(heap, many)""",
    "rows": """is_row(thing, m), freed_by_row(heap, row), row_frees(heap, row, goal),
        is_freeing(heap, goal, many, thing), many_needed(heap, goal), barring_part(heap, goal, many),
        is_barring_part(heap, goal, many, thing), least_row(heap, goal, many)""",
    "rules": """is_rule(thing, m), is_plain(rule), picks_of(rule, lot), rule_by(word, m), rule_in(order),
        renamed(rule, names), renamings(rule, other), narrowed(rule, lot), unlike_at(rule, other), plain_many(rule),
        plain_at(rule, number), number_of(rule, other)""",
    "leads": """leads_in(rule, lot), lead_shown(rule, lot, one, other), is_lead_shown(rule, lot, one, other, thing),
        reached(rule, lot, area), is_woven(rule, lot), woven_lots(rule), closed_in(rule, lot),
        is_closed_in(rule, lot, thing), first_lot(rule, lot), way_into(rule, lot, inner), weave_of(rule, lot),
        is_weave(rule, lot, thing)""",
    "chains": """chain_of(rule), chain_in(rule, lot), is_chain(rule, thing), width(rule), is_linking(rule, thing),
        linkings_to(rule, most), order_of(rule), is_order(rule, thing), bar_to(rule, most),
        is_bar_to(rule, most, thing)""",
    "stuck": """may_stay(rule, heap), must_stay(rule, heap), is_stuck(rule, heap), heap_of(rule, lot, weave),
        stuck_heap(rule, lot), is_stuck_heap(rule, lot, thing), stuck_many(rule, lot), least_missed(rule, course),
        stuck_against(rule, course), is_against(rule, course, thing), fewest_changed(rule, heap)""",
    "counts": """rules_many(m), all_one_many(m), ordered_many(m), widths_many(m), sizes_many(m, sizes), chains_many(m),
        chain_many(m, chain), order_number(rule), order_rule(m, number), ordered_with(m, told),
        orders_with(m, told)""",
    "mends": """order_changes(rule, order), fewest_changes(rule, width), changes_row(rule), change_orders(rule),
        mended(rule, width), is_mended(rule, width, thing), changes_within(rule, loose), floor_of(rule),
        is_floor(rule, thing), safe_picks(rule), widths_by_one(rule)""",
    "moves": """is_stand(heap, thing), first_stand(heap), heap_at(heap, stand), moves_of(heap, rule, lot),
        stands_behind(heap, rule, stand, lot), are_stands(heap, rule, lots, thing), moved(heap, rule, lot),
        stands_of(heap, rule, lots), freed_when(heap, rule, lots), areas_row(heap, rule, lots, some)""",
    "rounds": """is_course(thing, m), round_stands(heap, rule, course, many), stand_round(heap, rule, course),
        stand_far(heap, rule, course, many), freed_far(heap, rule, course), rounds_till(heap, rule, course),
        lasting(heap, rule, course), lasting_parts(heap, rule, course), slow_ring(many)""",
    "schedules": """frees_all(rule, course), demands(rules), fewest_course(rules, most),
        is_fewest_course(rules, most, thing), lots_added(rule, course, most), count_freed(m, course),
        courses_alike(m, course, other), parting_rule(m, course, other), is_parting_rule(m, course, other, thing)""",
    "loose": """lies_within(rule, other), joined_rule(rules), widths_within(rule), freed_many(rule, course),
        plain_freed(rule, course), is_plain_freed(rule, course, thing), plain_missed(rule, course),
        is_plain_missed(rule, course, thing), weavers_many(rule, lot), weaver(rule, lot),
        is_weaver(rule, lot, thing)""",
    "pins": """is_locked(rule, pins, lot), locked_lots(rule, pins), bare_lots(rule, pins, lot),
        pinned_heap(rule, pins, lot), is_pinned_heap(rule, pins, lot, thing), pins_fine(rule, pins, course),
        least_locked(rule, pins, course), greatest_pins(rule, course), fewest_unpinned(rule, pins, course),
        width_with(rule, pins)""",
    "own": """is_own_rule(thing, m), own_rule(m, word), widened(rule), as_own(rule), surely_frees(m, rule, lots),
        own_swept(heap, rule, lot), own_run(heap, rule, row), is_turn(m, rule, thing), comes_back(heap, rule, row)""",
    "ages": """burden(heap, one), aged(heap, age), aged_by(heap, row), young_kept(heap, age), freed_places(heap, row),
        burden_tally(heap), alike_aged(heap, other), parting_age(heap, other), till_gone(heap, row)""",
    "worth": """is_tariff(thing), worth(heap, tariff, some), best_worth(heap, tariff), inner_best(heap, tariff),
        outer_best(heap, tariff), dealing(heap, tariff), is_dealing(heap, tariff, thing),
        left_by(heap, tariff, dealing), fee_steps(heap, gain, price), best_lot(heap, tariff, many),
        most_for(heap, kept), best_next(heap, tariff, row), best_row(heap, tariff)""",
    "told": """told_by(m, seen), fits(told, rule), orders_told(m, told), goods_many(m, told), sure_picks(m, told),
        bar(m, told), is_bar(told, thing), asking_heap(m, lot), best_ask(m, told)""",
    "judge": """is_claim(thing), is_so(claim), paper(claim), is_paper_for(claim, thing), is_paper_against(claim, thing),
        verdicts(claims, things), comes_of(claim, claims), first_false(claims)""",
    "texts": """heap_text(heap), rule_text(rule), row_text(row), deeds_text(deeds), heap_read(text), rule_read(text),
        row_read(text), deeds_read(text)""",
    "desk": "desk(text), is_request(thing)",
}

BOARD = """do(deed), sweep(lot), sweeps(row), pick(lot, area), undo(), redo(), heap(), rule(), names(), freed(),
    place_of(name), log(), would_free(row), twin()"""


def told_calls(text):
    """The pairs (name, arguments) of a row of calls."""
    calls = [own.strip().strip(",").strip() for own in text.replace("\n", " ").split(")") if own.strip()]
    return [(own.split("(")[0], [arg.strip() for arg in own.split("(")[1].split(",") if arg.strip()]) for own in calls]


class InterfaceTest(TestCase):

    def test_functions(self):
        for file, text in FUNCTIONS.items():
            module = import_module(f"gatheryard.{file}")
            for name, arguments in told_calls(text):
                with self.subTest(f"{file}.{name}"):
                    own = getattr(module, name)
                    self.assertTrue(isfunction(own))
                    self.assertEqual(own.__module__, module.__name__)
                    self.assertEqual(list(signature(own).parameters), arguments)
        self.assertEqual(sum(len(told_calls(text)) for text in FUNCTIONS.values()), 246)

    def test_board(self):
        own = import_module("gatheryard.board").Board
        self.assertEqual((own.__module__, own.__bases__), ("gatheryard.board", (object,)))
        self.assertEqual(list(signature(own).parameters), ["heap", "rule"])
        for name, arguments in told_calls(BOARD):
            with self.subTest(name):
                self.assertTrue(isfunction(vars(own)[name]))
                self.assertEqual(list(signature(vars(own)[name]).parameters), ["self"] + arguments)
        self.assertTrue(isfunction(vars(own)["__eq__"]) and isfunction(vars(own)["__ne__"]))

    def test_classes(self):
        for file, text in CLASSES.items():
            module = import_module(f"gatheryard.{file}")
            for name, arguments in told_calls(text):
                with self.subTest(f"{file}.{name}"):
                    own = getattr(module, name)
                    self.assertTrue(isclass(own))
                    self.assertEqual(own.__module__, module.__name__)
                    given = {argument: place for place, argument in enumerate(arguments)}
                    self.assertEqual(vars(own(**given)), given)
