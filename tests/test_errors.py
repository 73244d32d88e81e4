"""The errors, and the names of the interface."""

import importlib
import inspect
import unittest

from branchsheets.errors import Fault, Malformed, NoText, Refused

INTERFACE = {
    "errors": "Fault Malformed Refused NoText",
    "whole": "is_integer read_integer raised_to factorial_of chosen_of greatest_common least_common ratio is_ratio"
             " ratio_sum ratio_less ratio_product ratio_over ratio_text ratio_below",
    "partitions": "is_partition partitions_of part_counts centralizer_order repeat_number class_size conjugate_of"
                  " content_sum joined_parts is_refinement",
    "permutations": "is_permutation product_of inverse_of power_of product_row cycles_of cycle_type order_of sign_of"
                    " conjugate_by least_conjugator partners_of permutations_of_type least_of_type swaps_of"
                    " swap_product",
    "systems": "is_system is_cover is_connected is_closed is_word inverse_word reduced_word walk_word"
               " word_permutation system_parts restricted_system system_beside datum_of genus_of renumbered_system"
               " numbered_from least_system leading_words told_system",
    "decks": "is_system_map map_from system_maps closing_word alike_by deck_maps is_galois deck_colouring"
             " is_block_colouring joining_blocks block_colourings is_primitive folded_system blocks_meet blocks_join"
             " branch_loss",
    "permgroups": "group_order told_base base_orbits least_ladder sifted_through is_member is_group_within same_group"
                  " least_of_coset group_members least_word_to conjugacy_sizes type_numbers orbits_fixing"
                  " transitive_degree derived_orders is_solvable is_giant",
    "finiteindex": "schreier_words schreier_row schreier_word rooted_told hall_number transitive_tuples cover_classes"
                   " rooted_systems folded_system subgroup_rank subgroup_index is_in_subgroup same_subgroup",
    "fibreproducts": "product_parts product_datum part_with part_datum part_genus part_system subdegrees"
                     " closure_genus closure_system coset_system has_equal_fixed least_unlike_fixed",
    "cells": "cell_numbers face_chains chain_boundary is_loop_chain loop_rank loop_basis crossing_number"
             " crossing_table filling_of moved_chain deck_trace fixed_petals",
    "classalgebra": "is_class_row class_row_of row_sum signed_row_sum class_constant class_table class_product"
                    " class_power product_row_of tuple_number",
    "rimhooks": "rim_removals rim_character character_rows hook_lengths filling_number central_number cell_row"
                " kostka_number young_number row_product row_parts is_character_row invariant_number",
    "coverings": "is_datum cover_number connected_number swap_number connected_swaps cover_weight connected_weight"
                 " datum_genus surface_subgroups sub_data",
    "cutjoin": "move_number move_row move_table double_number connected_double cut_and_join share_number least_moves"
               " type_walk is_type_walk",
    "walkgraphs": "is_walk_graph graph_types graph_weight graph_turns graph_pieces graph_genus graph_walk"
                  " turned_graph drawn_graph walk_graphs graph_sum connected_sum",
    "closedforms": "joining_rows joining_length cactus_number half_sine_row even_product even_quotient"
                   " one_part_number one_part_swaps four_ends tree_rows",
    "cyclefactors": "long_cycle swap_length lies_below crossing_of below_cycle other_side parting_number chain_number"
                    " is_parking parking_of swaps_of_parking shortest_swaps joining_swaps",
    "braids": "braid_move braided_row braid_orbit class_orbit sorted_row sorting_word joining_word swap_counts"
              " curve_system",
    "coverpapers": "alike_paper over_paper galois_paper blocks_paper",
    "coverjudges": "takes_alike takes_over takes_galois takes_blocks",
    "movepapers": "braid_paper walk_paper graphs_paper",
    "movejudges": "takes_braid takes_walk takes_graphs",
    "grouppapers": "member_paper order_paper product_paper index_paper linked_paper",
    "groupjudges": "takes_member takes_order takes_product takes_index takes_linked",
    "surfacepapers": "renumbered_paper swaps_paper filled_paper independent_paper trace_paper",
    "surfacejudges": "takes_renumbered takes_swaps takes_filled takes_independent takes_trace",
    "datumpapers": "datum_paper joining_paper below_paper",
    "datumjudges": "takes_datum takes_joining takes_below",
    "sheet": "read_line",
    "replies": "Reply reply_to defined_by is_right",
    "log": "write_data read_data write_log read_log first_wrong",
    "console": "Console",
}

# The methods of the classes, each defined in the class itself, with the arguments behind the object.
METHODS = {
    ("replies", "Reply"): {"__init__": "kind,text,data", "__eq__": "other"},
    ("console", "Console"): {"__init__": "most", "enter": "line", "__len__": "", "__iter__": "", "names": "", "log": ""},
}

# The arguments of the functions from chapter 9 on, as the interface names them.
ARGUMENTS = {
    "classalgebra": "value,d mu row,d row,d mu,nu,lam mu one,two,d row,n,d types,d types,d",
    "rimhooks": "lam,m lam,mu d lam lam lam,mu lam lam,mu mu,nu f,g,d f,d f,d S,lam",
    "coverings": "value,d h,d,data h,d,data h,d,r,data h,d,r,data h,d,data h,d,data h,d,data h,d d,data",
    "cutjoin": "mu,nu mu d mu,nu,r mu,nu,r F mu,nu mu,nu mu,nu,r value,mu,nu",
    "walkgraphs": "value,r graph,r graph,r graph,r graph,r graph,r graph,r graph,r a,swaps mu,nu,r mu,nu,r mu,nu,r",
    "closedforms": "mu mu d,types n f,h f,h nu,g nu,g a,b,c,e d",
    "cyclefactors": "d p p,q p d p mu d,k value row row p,q p",
    "braids": "row,i row,word row S row row one,two row S",
    "coverpapers": "S,T S,T S S",
    "coverjudges": "S,T,paper S,T,paper S,paper S,paper",
    "movepapers": "one,two mu,nu,r mu,nu,r",
    "movejudges": "one,two,paper mu,nu,r,paper mu,nu,r,paper",
    "grouppapers": "S,p S k,words,w k,words S,T",
    "groupjudges": "S,p,paper S,paper k,words,w,paper k,words,paper S,T,paper",
    "surfacepapers": "p,q p,m S,a S,chains S,f",
    "surfacejudges": "p,q,paper p,m,paper S,a,paper S,chains,paper S,f,paper",
    "datumpapers": "d,data p,r p",
    "datumjudges": "d,data,paper p,r,paper p,paper",
    "sheet": "line",
    "replies": "kind,text,data names,line names,line names,entry",
    "log": "data text entries text entries",
    "console": "most",
}


class Errors(unittest.TestCase):
    def test_bases(self):
        self.assertTrue(issubclass(Fault, ValueError))
        rows = (Malformed, Refused, NoText)
        for one in rows:
            self.assertTrue(issubclass(one, Fault))
            for other in rows:
                self.assertEqual(issubclass(one, other), one is other)

    def test_attributes(self):
        self.assertEqual(Refused("large").reason, "large")
        self.assertEqual(Refused("many").reason, "many")
        self.assertEqual(NoText(0).at, 0)
        self.assertEqual(NoText(17).at, 17)

    def test_raised(self):
        for error in (Malformed("x"), Refused("open"), NoText(3)):
            with self.assertRaises(Fault):
                raise error
            with self.assertRaises(ValueError):
                raise error


class Interface(unittest.TestCase):
    def test_names_stand_in_their_files(self):
        for name, words in INTERFACE.items():
            module = importlib.import_module("branchsheets." + name)
            for word in words.split():
                self.assertEqual(getattr(module, word).__module__, module.__name__, word)

    def test_arguments(self):
        for name, rows in ARGUMENTS.items():
            module = importlib.import_module("branchsheets." + name)
            words = INTERFACE[name].split()
            self.assertEqual(len(words), len(rows.split()))
            for word, row in zip(words, rows.split()):
                self.assertEqual(",".join(inspect.signature(getattr(module, word)).parameters), row, word)

    def test_methods(self):
        for (name, word), methods in METHODS.items():
            made = getattr(importlib.import_module("branchsheets." + name), word)
            for method, row in methods.items():
                self.assertIn(method, vars(made))
                self.assertEqual(",".join(list(inspect.signature(vars(made)[method]).parameters)[1:]), row, method)

    def test_defaults(self):
        reply, console = (getattr(importlib.import_module("branchsheets." + name), word) for name, word in METHODS)
        self.assertEqual([part.default for part in inspect.signature(reply).parameters.values()][1:], ["", ()])
        most = inspect.signature(console).parameters["most"]
        self.assertEqual((most.default, most.kind), (300, inspect.Parameter.KEYWORD_ONLY))

    def test_init_defines_nothing(self):
        import branchsheets
        with open(inspect.getfile(branchsheets)) as held:
            self.assertEqual(held.read(), "")


if __name__ == "__main__":
    unittest.main()
