"""The errors, and the names of the interface."""

import importlib
import inspect
import unittest

from branchsheets.errors import Fault, Malformed, NoText, Refused

INTERFACE = {
    "errors": "Fault Malformed Refused NoText",
    "whole": "is_integer read_integer raised_to factorial_of chosen_of greatest_common least_common ratio is_ratio"
             " ratio_sum ratio_less ratio_product ratio_over ratio_text ratio_below",
    "partitions": "is_partition partitions_of part_counts centralizer_order repeat_number class_size conjugate_of"
                  " content_sum joined_parts is_refinement",
    "permutations": "is_permutation product_of inverse_of power_of product_row cycles_of cycle_type order_of sign_of"
                    " conjugate_by least_conjugator partners_of permutations_of_type least_of_type swaps_of"
                    " swap_product",
    "systems": "is_system is_cover is_connected is_closed is_word inverse_word reduced_word walk_word"
               " word_permutation system_parts restricted_system system_beside datum_of genus_of renumbered_system"
               " numbered_from least_system leading_words told_system",
    "decks": "is_system_map map_from system_maps closing_word alike_by deck_maps is_galois deck_colouring"
             " is_block_colouring joining_blocks block_colourings is_primitive folded_system blocks_meet blocks_join"
             " branch_loss",
    "permgroups": "group_order told_base base_orbits least_ladder sifted_through is_member is_group_within same_group"
                  " least_of_coset group_members least_word_to conjugacy_sizes type_numbers orbits_fixing"
                  " transitive_degree derived_orders is_solvable is_giant",
    "finiteindex": "schreier_words schreier_row schreier_word rooted_told hall_number transitive_tuples cover_classes"
                   " rooted_systems folded_system subgroup_rank subgroup_index is_in_subgroup same_subgroup",
    "fibreproducts": "product_parts product_datum part_with part_datum part_genus part_system subdegrees"
                     " closure_genus closure_system coset_system has_equal_fixed least_unlike_fixed",
    "cells": "cell_numbers face_chains chain_boundary is_loop_chain loop_rank loop_basis crossing_number"
             " crossing_table filling_of moved_chain deck_trace fixed_petals",
}


class Errors(unittest.TestCase):
    def test_bases(self):
        self.assertTrue(issubclass(Fault, ValueError))
        rows = (Malformed, Refused, NoText)
        for one in rows:
            self.assertTrue(issubclass(one, Fault))
            for other in rows:
                self.assertEqual(issubclass(one, other), one is other)

    def test_attributes(self):
        self.assertEqual(Refused("large").reason, "large")
        self.assertEqual(Refused("many").reason, "many")
        self.assertEqual(NoText(0).at, 0)
        self.assertEqual(NoText(17).at, 17)

    def test_raised(self):
        for error in (Malformed("x"), Refused("open"), NoText(3)):
            with self.assertRaises(Fault):
                raise error
            with self.assertRaises(ValueError):
                raise error


class Interface(unittest.TestCase):
    def test_names_stand_in_their_files(self):
        for name, words in INTERFACE.items():
            module = importlib.import_module("branchsheets." + name)
            for word in words.split():
                self.assertEqual(getattr(module, word).__module__, module.__name__, word)

    def test_init_defines_nothing(self):
        import branchsheets
        with open(inspect.getfile(branchsheets)) as held:
            self.assertEqual(held.read(), "")


if __name__ == "__main__":
    unittest.main()
