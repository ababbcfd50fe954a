"""Names, arguments and defaults as the interface tells them."""

import importlib
import inspect
import unittest

SIGNATURES = {
    "boards": {"read_board": "(text)"},
    "paces": {
        "even": "(board, number)", "step": "(board, pace, lot)", "before": "(board, pace, lot)",
        "least_pace": "(board, steps)", "ahead": "(board, lot, paces)",
    },
    "looks": {
        "answers": "(board, look)", "lot_of": "(board, look, answer)", "look_text": "(look)", "read_look": "(text)",
    },
    "stories": {
        "look_story": "(board, story)", "last_beat": "(story)", "forth": "(board, story)", "back": "(board, story)",
        "known": "(board, story)",
    },
    "walks": {
        "fits": "(board, story, walk)", "many_walks": "(board, story)", "walk_at": "(board, story, *, number=0)",
        "number_of": "(board, story, walk)", "walk_by": "(board, story, beat, place)",
    },
    "papers": {"paper": "(board, story, beat, place)", "holds": "(board, story, beat, place, paper)"},
    "wrongs": {
        "fewest_wrong": "(board, story)", "table": "(board, story, count)",
        "table_holds": "(board, story, count, rows)",
    },
    "worth": {"worth_alike": "(board, story, seen)", "needless": "(board, story)", "bare": "(board, story)"},
    "books": {
        "book_holds": "(game, lot, rows, *, turn=0)", "answerer_holds": "(game, lot, beats, rows, *, turn=0)",
        "follow": "(game, lot, rows, answers, *, turn=0)",
    },
    "deeds": {"deed_text": "(deed)", "read_deed": "(text)"},
    "pages": {"page": "(post)", "read_page": "(text)"},
}
CLASSES = {
    ("boards", "Board"): {
        "__init__": "(self, many, ways=())", "ways": "(self)", "onward": "(self, place)", "far": "(self, one, other)",
        "within": "(self, place, most)", "turned": "(self)", "renamed": "(self, order)",
        "__eq__": "(self, other)", "__len__": "(self)", "__str__": "(self)", "__repr__": "(self)",
    },
    ("games", "Game"): {
        "__init__": "(self, board, pace, hands, *, wish=1)", "turns": "(self)", "lasting": "(self, lot, *, turn=0)",
        "keeps": "(self, lot, beats, *, turn=0)", "price": "(self, lot, beats, *, turn=0)",
        "book": "(self, lot, *, turn=0)", "answerer": "(self, lot, beats, *, turn=0)",
    },
    ("talks", "Talk"): {
        "__init__": "(self, delays, looks)", "hands": "(self)", "looks": "(self)", "letters": "(self)",
        "comes": "(self, letter)", "heard": "(self, hand, beat, *, lost=())",
    },
    ("worlds", "Worlds"): {
        "__init__": "(self, board, lot, paces, talk, *, lost=1)", "worlds": "(self)",
        "alike": "(self, hand, beat, world)", "so": "(self, beat, world, saying)",
        "other": "(self, hand, beat, world, saying)", "__len__": "(self)",
    },
    ("posts", "Post"): {
        "__init__": "(self, board)", "do": "(self, deed)", "batch": "(self, deeds)",
        "put": "(self, name, lot, *, pace=None)", "look": "(self, name, look, *, answer=1)",
        "late": "(self, name, beat, look, *, answer=1)", "wish": "(self, question, name, *, most=1)",
        "go": "(self, *, beats=1)", "undo": "(self)", "redo": "(self)", "board": "(self)", "now": "(self)",
        "things": "(self)", "begun": "(self, name)", "story": "(self, name)", "forth": "(self, name)",
        "known": "(self, name)", "walk": "(self, name)", "kept": "(self, name)", "made": "(self)", "looks": "(self)",
        "wishes": "(self)", "answer": "(self, question)", "notes": "(self)", "deeds": "(self)", "undone": "(self)",
        "twin": "(self)", "__eq__": "(self, other)", "__len__": "(self)", "__repr__": "(self)",
    },
    ("desk", "Desk"): {"__init__": "(self, board)", "say": "(self, line)", "post": "(self)"},
}
VALUES = {
    "boards": {"MOST_PLACES": 8},
    "paces": {"MOST_PACE": 7, "MOST_BEATS": 12},
    "wrongs": {"MOST_SEEN": 24},
    "games": {"MOST_GAME": 20},
    "worlds": {"MOST_WORLDS": 3000},
    "posts": {"MOST_THINGS": 6, "MOST_WISHES": 6, "MOST_LOOKS": 24},
}


def module(name):
    return importlib.import_module(f"roamlook.{name}")


class Interface(unittest.TestCase):
    def test_functions(self):
        for file, functions in SIGNATURES.items():
            for name, told in functions.items():
                function = getattr(module(file), name)
                self.assertEqual(str(inspect.signature(function)), told, name)
                self.assertEqual(function.__module__, f"roamlook.{file}")

    def test_methods_stand_in_their_class(self):
        for (file, name), methods in CLASSES.items():
            found = vars(getattr(module(file), name))
            for method, told in methods.items():
                self.assertIn(method, found)
                self.assertEqual(str(inspect.signature(found[method])), told, (name, method))

    def test_values(self):
        for file, values in VALUES.items():
            for name, worth in values.items():
                self.assertIs(type(getattr(module(file), name)), int)
                self.assertEqual(getattr(module(file), name), worth)


if __name__ == "__main__":
    unittest.main()
