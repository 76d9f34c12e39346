"""The interface: its names, in the files under which they are listed."""

import importlib
import inspect
import unittest

LISTED = {
    "tables": {"is_table": 1, "turned": 1, "part_of": 3},
    "likes": {"numbered": 1, "unlike_rows": 1, "unlike_cols": 1},
    "tabletexts": {"show_table": 1, "read_table": 1},
    "trees": {"is_tree": 3, "depth_of": 1},
    "telling": {"told": 3, "tells": 2, "first_wrong": 2, "ends_of": 3},
    "treetexts": {"show_tree": 1, "read_tree": 3},
    "fewest": {"fewest": 1},
    "words": {"is_telling": 3, "told_by": 3, "wrong_pairs": 2, "one_word": 1},
    "parting": {"parted": 1, "parted_holds": 2},
    "treewords": {"words_of": 2},
    "leastwrong": {"least_wrong": 3},
    "determinants": {"determinant": 1, "stands": 2},
    "ranks": {"ranked": 2},
    "rankchecks": {"ranked_holds": 3},
    "factors": {"factors": 2},
    "fractions": {"lowest": 2, "less": 2},
    "games": {"fair": 1},
    "gamechecks": {"fair_holds": 2},
    "drawn": {"wrong_in": 2, "worst": 2},
    "fairwords": {"fair_words": 2},
    "fairchecks": {"fair_words_holds": 3},
    "own": {"own_of": 1, "own_wrong": 2},
    "fewer": {"fewer": 4},
    "cubes": {"is_cube": 1},
    "threes": {"is_three": 2, "told_three": 4, "tells_cube": 2, "ends_of_three": 2},
    "shutting": {"is_shut": 1, "shut_up": 1},
    "fewestthree": {"fewest_three": 1},
    "threewords": {"is_said": 2, "said": 1, "said_wrong": 2, "said_parted": 1},
    "threechecks": {"said_parted_holds": 2},
    "together": {"both": 2, "times": 2, "added": 3},
    "bothtold": {"both_tellings": 2, "both_draws": 2, "both_trees": 3},
    "questions": {"is_question": 1, "cut": 2},
    "machines": {"is_machine": 2, "reads": 2, "machine_of": 1, "words_at": 2},
    "states": {"states": 1},
    "statechecks": {"states_holds": 2},
    "summing": {"is_summing": 3, "worth": 3, "sizes_of": 1, "summed": 1, "sum_cut": 3},
    "summade": {"summing_of": 2},
    "findings": {"finding_holds": 1},
}
LISTED_CLASSES = {
    "stands": {"Stand": {"put": 2, "more": 2, "change": 3, "drop": 1, "keep": 2, "back": 1, "names": 0, "table": 1,
                         "kept": 1,
                         "fewest": 1, "gone": 0, "deeds": 0}},
    "desk": {"Desk": {"say": 1}},
}


class Interface(unittest.TestCase):

    def check_taken(self, found, count):
        """What is found is a function that takes so many arguments by their places."""
        self.assertTrue(inspect.isfunction(found))
        parameters = inspect.signature(found).parameters.values()
        asked = [part for part in parameters if part.default is part.empty]
        self.assertEqual(len(asked), count)
        self.assertTrue(all(part.kind in (part.POSITIONAL_ONLY, part.POSITIONAL_OR_KEYWORD) for part in asked))

    def test_functions_are_defined_where_they_are_listed(self):
        for name, functions in LISTED.items():
            module = importlib.import_module("tellfew." + name)
            for function, count in functions.items():
                with self.subTest(module=name, function=function):
                    found = getattr(module, function)
                    self.check_taken(found, count)
                    self.assertEqual(found.__module__, "tellfew." + name)

    def test_classes_are_defined_where_they_are_listed_with_their_methods(self):
        for name, classes in LISTED_CLASSES.items():
            module = importlib.import_module("tellfew." + name)
            for word, methods in classes.items():
                found = getattr(module, word)
                self.assertTrue(inspect.isclass(found))
                self.assertEqual(found.__module__, "tellfew." + name)
                self.assertIsInstance(found(), found)
                for method, count in methods.items():
                    with self.subTest(module=name, method=method):
                        # One more is the stand, or the desk, itself.
                        self.check_taken(vars(found)[method], 1 + count)


if __name__ == "__main__":
    unittest.main()
