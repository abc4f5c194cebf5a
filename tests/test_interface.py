"""The beginning of "The interface": each name exists, defined in the file under which it is listed."""

import importlib
import unittest

from contract import CONTRACT
from interface import PACKAGE, defined_in, methods_in
from provedunseen.building import scheme_of
from provedunseen.distributions import Distribution
from provedunseen.errors import BadBench, BadLog, BadText
from provedunseen.ledgers import Budget, Ledger, SimulatedLedger, Tape
from provedunseen.askers import Asker
from provedunseen.meetings import Meeting
from provedunseen.programs import Program
from provedunseen.ratios import Ratio
from provedunseen.reader import Reader
from provedunseen.responders import Knower, Simulator
from samples import OR, STATEMENTS
from table_samples import COINS, made

PARTS = [*CONTRACT]
# For each module its functions, and for each of its classes the methods, properties and class values.
NAMES = {
    "errors": ("", {name: "" for name in """UnseenError BadRatio BadWeight EmptyDistribution BadPermutation BadDraw
        BadGraph BadStatement BadWitness BadQuestion BadContents TooLarge NothingExtracted BadTable LeakyTable BadPlan
        Crash TapeEnd AlreadySealed NotSealed BadBox BadSession BadProgram BadSchedule BadText BadLog
        BadBench""".split()}),
    "ratios": ("", {"Ratio": "__init__ __add__ __sub__ __mul__ __eq__ less raised __str__"}),
    "distributions": ("", {"Distribution": "__init__ chance __contains__ __eq__ __iter__ even mixed __mul__"}),
    "perms": ("is_permutation permutation permutation_number inverse compose", {}),
    "graphs": ("""make_graph has_edge node_pairs pair_place edge_table relabel ring_form ring_edges is_ring_form
        ring_forms""", {}),
    "statements": ("ring alike circuit colors both either atom_count", {}),
    "meaning": ("gate_value wire_values holds", {}),
    "schemes": ("", {"Scheme": "reply accepts answer passed reply_distribution simulated_distribution extract"}),
    "reader": ("", {"Reader": "__init__ ended follows piece number finish"}),
    "texts": ("format_statement parse_statement format_witness parse_witness", {}),
    "witnesses": ("witnesses count_witnesses first_witness is_true witness_at witness_number", {}),
    "carried": ("""relabel_statement swap_statement regroup_statement joined_alike relabel_witness swap_witness
        regroup_witness joined_witness""", {}),
    "leaks": ("first_failure count_reply differences best_guess exchange is_exchange", {}),
    "tables": ("", {"TableScheme": "__init__"}),
    "tabling": ("restricted paired tabled", {}),
    "cheats": ("fillings_of best_filling best_against filling_for guess_filling", {}),
    "plans": ("""row_text check_plan passed_rows plan_chance rest_plan best_plan guess_plan extract_from_plan
        deals_needed""", {}),
    "together": ("""check_together passed_together together_chance best_together guess_together
        extract_from_together""", {}),
    "rings": ("", {"RingScheme": "__init__ draws_around SHOW_GRAPH SHOW_RING"}),
    "likenesses": ("", {"AlikeScheme": "__init__ mirrored __invert__ SHOW_FIRST SHOW_SECOND"}),
    "masks": ("bits number_of_bits bit_rows flipped row_number masked_rows", {}),
    "circuits": ("", {"CircuitScheme": "__init__ faults walk"}),
    "colorings": ("proper_edges recolor color_form best_coloring best_chance quick_coloring",
                  {"ColorScheme": "__init__"}),
    "joins": ("", {"BothScheme": "__init__ __invert__ mirrored mirrored_draw",
                   "EitherScheme": "__init__ __invert__ mirrored mirrored_draw FIRST SECOND"}),
    "several": ("all_of any_of all_witness any_witness", {}),
    "building": ("scheme_of", {}),
    "ledgers": ("", {"Budget": "__init__ allow spend", "Tape": "__init__ take",
                     "Ledger": "__init__ sealed is_sealed shown visible letters_of seal reveal post",
                     "SimulatedLedger": "__init__ seal_blank reveal_as"}),
    "responders": ("deals_of writes_due attempt given_away",
                   {"Responder": "offer ask restart", "Knower": "__init__", "Simulator": "__init__"}),
    "programs": ("digest", {"Program": "__init__ move cuts __call__"}),
    "talks": ("knower_view simulator_view", {}),
    "plain": ("plain_view plain_deals matching_tape original_tape", {}),
    "views": ("tape_size all_tapes view_distribution simulated_view_distribution along_distribution", {}),
    "askers": ("asks_of", {"Asker": "__init__ restart hear verdict"}),
    "trials": ("trial trial_count", {}),
    "meetings": ("", {"Meeting": "__init__ verdict run finish"}),
    "bench": ("report", {}),
}
CONTRACT_CLASSES = "TableScheme RingScheme AlikeScheme CircuitScheme ColorScheme BothScheme EitherScheme".split()
PROPERTIES = {("reader", "Reader", "ended"), ("ledgers", "Ledger", "sealed"), ("askers", "Asker", "verdict"),
              ("meetings", "Meeting", "verdict")}


def new_objects():
    """Objects of the classes of the interface, with the attributes that each has from the start."""
    scheme, log, ledger = scheme_of(OR), [], Ledger()
    yield Ratio(1, 2), "part whole"
    yield Distribution([(1, 1)]), "pairs total"
    yield Reader(""), "text place"
    yield BadText(1), "at"
    yield BadLog(1), "place"
    yield BadBench(1), "line"
    yield made(COINS), "questions boxes draws signs rules fillings leak"
    yield Budget(), "left"
    yield Tape([]), "place"
    yield Ledger(), "letters"
    yield SimulatedLedger(), "letters"
    yield Knower([scheme], [(0, 1)], Tape([]), log, ledger, Budget()), "deals up"
    yield Simulator([scheme], Tape([]), log, SimulatedLedger(), Budget()), "deals up"
    yield Program([(("offer", 0), (), (0,))]), "states"
    yield Asker(scheme, 1, Tape([]), log, ledger, Budget()), "questions bits up"
    yield Meeting(scheme, (0, 1), 1, (), ()), "knower asker ledger"
    for statement in STATEMENTS:
        more = {"both": " first second", "either": " first second"}.get(statement[0], "")
        yield scheme_of(statement), "questions boxes draws" + more


class InterfaceTest(unittest.TestCase):
    def test_every_module_is_listed(self):
        self.assertEqual([name for name in NAMES if not (PACKAGE / f"{name}.py").is_file()], [])
        self.assertEqual(len(NAMES), 36)

    def test_names_are_defined_where_they_are_listed(self):
        for module, (functions, classes) in NAMES.items():
            loaded = importlib.import_module(f"provedunseen.{module}")
            for name in [*functions.split(), *classes]:
                with self.subTest(module=module, name=name):
                    self.assertIn(name, defined_in(module))
                    self.assertTrue(callable(getattr(loaded, name)))
                    self.assertEqual(getattr(loaded, name).__module__, f"provedunseen.{module}")

    def test_methods_stand_in_their_class(self):
        for module, (_, classes) in NAMES.items():
            loaded = importlib.import_module(f"provedunseen.{module}")
            for name, listed in classes.items():
                known = methods_in(module, name)
                for method in listed.split() + (PARTS if name in CONTRACT_CLASSES else []):
                    with self.subTest(module=module, name=name, method=method):
                        value = vars(getattr(loaded, name))[method]
                        if method.isupper():
                            self.assertIs(type(value), int)
                        else:
                            self.assertIn(method, known)
                            self.assertIs(isinstance(value, property), (module, name, method) in PROPERTIES)

    def test_attributes_are_there_from_the_start(self):
        for made_object, names in new_objects():
            for name in names.split():
                with self.subTest(kind=type(made_object).__name__, name=name):
                    self.assertIn(name, vars(made_object))

    def test_atoms_tell_their_statement(self):
        for statement in STATEMENTS:
            if statement[0] in ("ring", "alike"):
                self.assertEqual(vars(scheme_of(statement))["statement"], statement)


if __name__ == "__main__":
    unittest.main()
