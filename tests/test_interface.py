"""Point 0.3 and the interface: where each name is defined, its arguments, and its kind."""

import importlib
import inspect
import unittest

FUNCTIONS = {
    "ratios": (
        "ratio(top, bottom=1)", "fraction_of(value, name)", "added(a, b)", "less(a, b)", "times(a, b)", "over(a, b)",
        "compare(a, b)", "total_of(rows)",
    ),
    "lots": (
        "lot_of(value, size)", "number_of(lot, size)", "lot_at(number, size)", "all_lots(size)", "rest_of(lot, size)",
    ),
    "worlds": ("web_of(world)", "with_calls(world, calls)", "closed_lot(world, lot)"),
    "linking": (
        "is_linked(world)", "shut_lot(world)", "way(world, start, goal)", "heads(world)", "reaches(world, place)",
    ),
    "even": (
        "table_of(table)", "is_even(table)", "uneven_lot(table)", "out_of(table, lot)", "into(table, lot)",
        "rings_of(table)", "from_rings(size, rings)",
    ),
    "shapes": (
        "is_two_way(world)", "sides(world)", "odd_ring(world)", "line(world)", "branch(world)", "fair_break(world)",
    ),
    "marks": ("mark_of(value, size)", "marks_of(marks, size)", "of_world(world, marks)", "weight(world, marks)"),
    "doing": (
        "grades_of(value, size)", "end_grades(grades, marks)", "states(grades, marks)", "effective(grades, marks)",
    ),
    "runtables": ("jury_walk(marks, lot, size)", "step_back(mark, lot)"),
    "decided": ("gathered(world, jury)", "decided_row(world, jury)"),
    "markrows": (
        "forward(world, number, start, lot)", "backward(world, number, start, lot)", "decided_share(world, number)",
    ),
    "exchange": ("walk_row(world, pair, goal)", "pairs_from(world, pair)"),
    "sayrows": (
        "says(world)", "flow(world)", "said(world, lot)", "squares(world, lot)", "lasts(world, grades)",
        "mean_says(world, grades)",
    ),
    "turnworth": ("turns(world, lot)", "turns_by_run(world, lot)"),
    "reshaping": (
        "left_out(world, place)", "glued(world, other, place, other_place)", "slowed(world, factors)",
        "from_flow(table, row)", "ring_web(size, ring, row, weight)",
    ),
    "samewins": ("same_winners(world, other)", "flow_gap(world, other)"),
    "meeting": ("meetings(world)", "meeting_sum(world)", "apart(world, lot)", "visits(world, pair)"),
    "slopes": (),
    "helds": (
        "stubborn_places(world)", "free_places(world)", "is_held(world)", "held_world(world, lot)", "headed(world)",
    ),
    "endings": (
        "end_chances(world, lot)", "lit(world, lot, holders)", "lasting_greatest(world, lot, grades)",
        "both_ways(world)",
    ),
    "lastings": ("lasting_lots(world, holders)", "all_zero(world, lot, holders)"),
    "firsts": (
        "first_meetings(world, one, other)", "sure_places(world, holders)", "covariance(world, one, other, holders)",
        "number_covariance(world, one, other, numbers)", "independent_lot(world, lot, holders)",
        "tied_pair(world, lot, holders)",
    ),
    "wins": ("win(world, lot)", "win_row(world)", "mean_last(world, grades)", "last_chances(world, grades)"),
    "juries": ("jury_steps(world, lot)",),
    "signs": ("difference(world, base, extra)", "from_row(row)"),
    "raising": ("raised(world, tie, number)", "helps(world, tie, lot)"),
    "rises": ("call_worth(world, lot)", "rise_worth(world, grades)", "out_and_in(world)"),
    "toldback": (
        "call_sums(takes, row)", "factors_told(takes, row)", "same_wins(world, other)",
        "far_chance(world, grades, lot, grade)",
    ),
    "rules": (),
    "naturals": ("natural(world, strength)", "strength_of(world)", "natural_rule(world, strength)"),
    "independent": (
        "odds_of(world)", "pair_gap(world, odds, i, j)", "place_gap(world, odds, j)", "fits(world, odds)",
    ),
    "byfactors": (
        "by_factors(world, factors)", "factors_of(world)", "factor_kind(world)", "two_factors(world, v, q)",
    ),
    "backwards": ("turned_web(world)", "turned(world)", "backwards_gap(world)"),
    "sandwich": ("strengths(world)", "between(world, lot)", "border(world, odds, lot)"),
    "coming": (
        "needs(world, odds, lot)", "short_lot(world, odds)", "calls_for(world, odds)", "world_for(world, odds)",
        "least_counting(world)",
    ),
    "countalone": ("number_factor(world)", "counting_chance(r, number, size)"),
    "blockruns": (
        "check_blocks(blocks, size)", "block_counts(blocks, lot, size)", "rate_up(world, blocks, lot, number)",
        "rate_down(world, blocks, lot, number)", "runs_alone(world, blocks)", "uneven_starts(world, blocks)",
        "flattened(world, blocks)",
    ),
    "gradecounts": (
        "grade_rate(world, blocks, row, number, g, h)", "grades_alone(world, blocks)", "uneven_rows(world, blocks)",
    ),
    "onefactor": (
        "one_factor(world, factor)", "factor_of(world)", "win_at(world, factor, lot)",
        "tipping(world, lot, *, parts=16)", "paces(world)", "pace_odds(pace, factor, lots)",
    ),
    "farends": ("strong_end(world)", "weak_end(world)", "verdict_near_one(world)"),
    "notes": (
        "win_ends(notes, lot)", "mean_ends(notes, grades)", "size_ends(notes)", "surely(notes, lot, chance)",
        "perhaps(notes, lot, chance)", "lit_ends(notes, lot, holders)", "rules_around(notes)",
    ),
    "gains": (
        "gain(world, other, lot)", "visits_of(world, lot)", "tie_worth(world, tie, lot)", "best_tie(world, lot)",
    ),
    "desks": (),
    "trials": ("tried(desk, deeds, question)", "step_mean(world, grades, grade)"),
    "listing": ("rows_text(row)", "world_text(world)", "world_from(text, size)"),
}
CLASSES = {
    ("worlds", "World"): (
        "(takes, *, calls=None)",
        {"steady_of": classmethod, "total": property, "steady": property},
        ("__init__", "rate", "ties", "calling", "__add__", "__mul__", "__eq__"),
    ),
    ("runtables", "Run"): (
        "(size, marks)",
        {"from_text": classmethod, "word_of": staticmethod, "table": property, "decided": property, "jury": property},
        ("__init__", "text", "back", "sources", "ends", "__add__", "__and__", "__eq__", "__iter__", "__len__"),
    ),
    ("slopes", "Slopes"): ("(world)", {"table": property}, ("__init__", "slope", "part", "of_tie", "singles")),
    ("juries", "Jury"): (
        "(world)",
        {"chances": property, "mean_size": property},
        ("__init__", "chance", "meets", "misses", "holds", "sized", "share", "__call__", "__iter__"),
    ),
    ("rules", "Rule"): (
        "(odds)",
        {},
        ("__init__", "__call__", "chance", "sized", "mean_jury", "share", "mean", "last_chances", "__eq__"),
    ),
    ("rules", "NaturalRule"): ("(says, strength)", {}, ("__init__",)),
    ("notes", "Notes"): (
        "(takes, low, high)",
        {"settled": property},
        ("__init__", "least", "most", "agrees", "narrow", "seen", "__contains__", "__eq__"),
    ),
    ("desks", "Desk"): (
        "(world, grades, *, held=())",
        {"rates": property, "now": property, "grades": property, "held": property, "run": property},
        (
            "__init__", "mark", "set_take", "set_call", "hold", "free", "set_grades", "back", "began", "done", "last",
            "at_least", "back_lots", "twin", "__iter__", "__len__",
        ),
    ),
    ("trials", "Trial"): ("(desk)", {}, ("__init__", "__enter__", "__exit__")),
}


def module(name):
    return importlib.import_module("copyrates." + name)


class Interface(unittest.TestCase):
    def test_functions(self):
        for name, functions in FUNCTIONS.items():
            for text in functions:
                function = getattr(module(name), text[:text.index("(")])
                self.assertEqual(function.__module__, "copyrates." + name)
                self.assertEqual(function.__name__ + str(inspect.signature(function)), text)

    def test_classes(self):
        for (name, called), (arguments, kinds, methods) in CLASSES.items():
            made = getattr(module(name), called)
            self.assertEqual(made.__module__, "copyrates." + name)
            self.assertEqual(str(inspect.signature(made)), arguments)
            for method, kind in kinds.items():
                self.assertIs(type(vars(made)[method]), kind)
            for method in methods:
                self.assertTrue(inspect.isfunction(vars(made)[method]))

    def test_arguments_of_methods(self):
        world, run, slopes = module("worlds").World, module("runtables").Run, module("slopes").Slopes
        jury, rule = module("juries").Jury, module("rules").Rule
        notes, desk = module("notes").Notes, module("desks").Desk
        for method, text in (
            (world.steady_of, "(takes)"), (world.rate, "(self, i, j)"), (run.from_text, "(text, size)"),
            (run.word_of, "(mark)"), (run.back, "(self, lot)"), (run.sources, "(self, place)"),
            (run.ends, "(self, grades)"), (run.text, "(self)"), (world.ties, "(self)"), (world.calling, "(self)"),
            (slopes.slope, "(self, lot)"), (slopes.part, "(self, p, u)"), (slopes.of_tie, "(self, tie, lot)"),
            (slopes.singles, "(self)"), (jury.chance, "(self, lot)"), (jury.meets, "(self, lot)"),
            (jury.misses, "(self, lot)"), (jury.holds, "(self, lot)"), (jury.sized, "(self, number)"),
            (jury.share, "(self, place)"), (jury.__call__, "(self, grades)"), (rule.__call__, "(self, lot)"),
            (rule.chance, "(self, lot)"), (rule.sized, "(self, number)"), (rule.mean_jury, "(self)"),
            (rule.share, "(self, place)"), (rule.mean, "(self, grades)"), (rule.last_chances, "(self, grades)"),
            (notes.least, "(self)"), (notes.most, "(self)"), (notes.agrees, "(self, world)"),
            (notes.narrow, "(self, tie, low, high)"), (notes.seen, "(self, tie, number)"),
            (desk.mark, "(self, i, j, word)"), (desk.set_take, "(self, tie, number)"),
            (desk.set_call, "(self, tie, number)"), (desk.hold, "(self, place)"), (desk.free, "(self, place)"),
            (desk.set_grades, "(self, grades)"), (desk.back, "(self)"), (desk.began, "(self)"), (desk.done, "(self)"),
            (desk.last, "(self)"), (desk.at_least, "(self, grade)"), (desk.back_lots, "(self, lot)"),
            (desk.twin, "(self)"),
        ):
            self.assertEqual(str(inspect.signature(method)), text)

    def test_bases(self):
        self.assertEqual(module("rules").NaturalRule.__bases__, (module("rules").Rule,))

    def test_generators(self):
        for name, called in (("doing", "states"), ("runtables", "jury_walk")):
            self.assertTrue(inspect.isgeneratorfunction(getattr(module(name), called)))


if __name__ == "__main__":
    unittest.main()
