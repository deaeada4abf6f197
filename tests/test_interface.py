"""The interface: each name stands in its own file, with its arguments."""

import ast
import importlib
import inspect
import unittest

# Each row: a file, and what it defines with the arguments; a method stands as Class.method, what is handed in by its
# name as *name=default.
INTERFACE = {
    "errors": {
        "SleepError": None, "Wrong": ["at"], "TooGreat": ["length"], "Twice": ["name"], "NotSo": [],
        "TooMany": ["most"], "NoHall": ["at"], "NoRow": ["number"], "NoWay": ["at"], "Full": ["most"],
        "NoSleeper": ["name"], "NoBeat": ["beat"], "Nothing": [], "Stopped": ["at"], "NoText": [], "NoLine": [],
        "NoHouse": [],
    },
    "kinds": {
        "is_whole": ["thing"], "is_name": ["thing"], "is_length": ["thing"], "is_rest": ["thing"],
        "are_beats": ["thing"], "is_stroke": ["thing"],
    },
    "books": {
        "Book": ["lengths"], "Book.lengths": [], "Book.sleep": ["many"], "Book.__eq__": ["other"],
        "Book.__len__": [], "Book.__repr__": [], "plain": ["many"], "slower_book": ["book", "by"],
    },
    "numbers": {
        "divisor": ["one", "other"], "multiple": ["one", "other"], "fraction": ["top", "bottom"],
        "total": ["fractions"], "order": ["one", "other"],
    },
    "standings": {
        "standing_of": ["pairs"], "heap_of": ["standing"], "groups_of": ["standing"],
        "slower_standing": ["standing", "by"],
    },
    "beats": {
        "beat": ["book", "standing"], "beat_of_heap": ["book", "heap"], "called": ["book", "standing", "stroke"],
        "ups_of": ["book", "standing", "row"], "counts_of": ["book", "heap", "beats"],
    },
    "goings": {
        "rest_behind": ["going", "beats"], "times_up": ["going", "beats"], "last_up": ["going", "beat"],
        "next_up": ["goings", "beat"], "meeting": ["one", "other"], "falling_in": ["one", "other"],
        "parting_of": ["one", "other"], "is_parting": ["one", "other", "thing"],
    },
    "leaps": {
        "fallings": ["book", "standing"], "far": ["book", "standing", "beats"], "up_at": ["book", "standing", "beat"],
        "ups_from": ["book", "standing", "beat", "many"], "times_of": ["book", "standing", "name", "beats"],
        "beats_with": ["book", "standing", "beats"], "all_told": ["book", "standing", "beats"],
        "given_over": ["book", "standing", "beats"],
    },
    "rests": {
        "is_at_rest": ["book", "standing"], "rest_from": ["book", "standing"], "paper_of": ["book", "standing"],
        "is_paper": ["book", "standing", "thing"], "shares": ["book", "standing"], "round_of": ["book", "standing"],
    },
    "hours": {
        "are_hours": ["book", "sizes", "thing"], "hours_of": ["book", "sizes", "*most=400"],
        "are_rows": ["book", "sizes", "thing"], "sizes_of": ["book", "many"], "plain_sizes": ["many"],
    },
    "hearing": {
        "can_be_heard": ["book", "counts", "many"], "new_ones": ["book", "counts", "many"],
        "heard_heap": ["book", "counts", "many"], "unlike_at": ["book", "one", "other"],
        "dealings": ["book", "counts", "names"], "dealing": ["book", "counts", "names", "number"],
    },
    "guesses": {
        "knocked": ["book", "many", "greatest", "knocks"],
        "heap_knocked": ["book", "many", "greatest", "knocks", "number"],
        "books_heard": ["counts", "many", "longest"], "book_heard": ["counts", "many", "longest", "number"],
    },
    "back": {
        "heaps_back": ["book", "heap", "counts"], "histories": ["book", "standing", "counts"],
        "history": ["book", "standing", "counts", "number"], "number_of": ["book", "standings"],
    },
    "elders": {
        "elders": ["book", "standing", "beats", "greatest"],
        "elder": ["book", "standing", "beats", "greatest", "number"], "is_garden": ["book", "heap"],
        "gardens": ["book", "many", "greatest"],
    },
    "watchers": {
        "parted_alone": ["one", "other", "standing"],
        "told_apart": ["one", "first", "other", "second", "strokes", "*heard=False", "*most=200"],
        "are_pairs": ["one", "first", "other", "second", "strokes", "thing", "*heard=False"],
    },
    "wishes": {
        "meets": ["standing", "wish"], "prices": ["book", "standing", "strokes", "wish", "*most=200"],
        "fewest": ["book", "standing", "strokes", "wish", "*most=200"],
        "is_fair": ["book", "strokes", "wish", "thing"],
    },
    "house": {
        "House": ["books"], "House.come": ["hall", "name", "rest"], "House.lull": ["name", "more"],
        "House.lead": ["name", "hall"], "House.wait": ["beats"], "House.go": ["name"], "House.call": ["name"],
        "House.put_in": ["beat", "deed"], "House.back": [], "House.again": [], "House.now": [], "House.story": [],
        "House.standing": ["hall"], "House.was": ["hall", "beat"], "House.ledger": ["hall"], "House.books": [],
        "House.copied": [],
    },
    "texts": {
        "show_book": ["book"], "show_standing": ["standing"], "show_heap": ["heap"], "show_stroke": ["stroke"],
        "show_row": ["row"], "show_counts": ["counts"], "show_story": ["story"], "read_book": ["text"],
        "read_standing": ["text"], "read_heap": ["text"], "read_stroke": ["text"], "read_row": ["text"],
    },
    "desk": {"Desk": [], "Desk.say": ["row"]},
}


def arguments_of(function):
    told = [one.arg for one in function.args.args]
    for one, default in zip(function.args.kwonlyargs, function.args.kw_defaults):
        told.append("*" + one.arg + "=" + ast.unparse(default))
    return told


def defined_in(file):
    """The names of the functions, classes and methods that the file itself defines, with their arguments."""
    source = inspect.getsource(importlib.import_module("sleepmany." + file))
    told = {}
    for part in ast.parse(source).body:
        if isinstance(part, ast.FunctionDef):
            told[part.name] = arguments_of(part)
        elif isinstance(part, ast.ClassDef):
            told[part.name] = []
            for method in part.body:
                if isinstance(method, ast.FunctionDef):
                    arguments = arguments_of(method)[1:]
                    told[part.name if method.name == "__init__" else part.name + "." + method.name] = arguments
    return told


class InterfaceTest(unittest.TestCase):
    def test_all_stands_in_its_file(self):
        for file, rows in INTERFACE.items():
            told = defined_in(file)
            for name, arguments in rows.items():
                with self.subTest(file=file, name=name):
                    self.assertIn(name, told)
                    if arguments is not None:
                        self.assertEqual(told[name], arguments)


if __name__ == "__main__":
    unittest.main()
