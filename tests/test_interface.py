"""The interface: each name is defined in its file, with just its arguments."""

import ast
import pathlib
import unittest

PACKAGE = pathlib.Path(__file__).resolve().parent.parent / "enoughlooks"
FUNCTIONS = {
    "forms": ["is_integer(thing)", "is_name(thing)", "is_row(thing)", "is_table(thing)", "is_tables(thing)", "is_atom(thing)",
              "is_range(thing)", "is_question(thing)", "is_edit(thing)", "fits(question, tables)"],
    "tables": ["has_row(table, row)", "is_there(rows, prefix)", "with_row(table, row)", "without_row(table, row)",
               "led_rows(table, places)", "nearest_by_all(rows, prefix, x)", "changed(tables, edits)"],
    "texts": ["show_tables(tables)", "read_tables(text)"],
    "pages": ["is_page(thing)", "is_page_tree(thing)", "rows_of(tree)", "height(tree)", "most_height(many)", "fewest_pages(many)"],
    "trees": ["tree_of(many, rows)", "put(tree, row)", "take(tree, row)", "has(tree, row)", "new_pages(tree, other)",
              "nearest(tree, prefix, x)", "pages_read(tree, prefix, x)", "rows_behind(tree, prefix)"],
    "disk": ["is_files(thing)", "done(files, deeds)", "cut(files, deeds, many, fates)"],
    "journal": ["page_text(page)", "root_text(root)", "read_page(text)", "read_root(text)", "is_sound(thing)", "root_in(files)",
                "tree_in(files, name)", "idle_paths(files)", "tables_in(files)", "mend_deeds(files)", "commit_deeds(files, changes)"],
    "questions": ["atoms_of(question, column)", "range_of(question, column)", "part_of(question, atom, point)", "names_of(question)",
                  "lets(question, column, value)", "is_point(question, thing)", "narrowed(question, column, low, high)",
                  "in_order(question, columns)"],
    "reader": ["show_question(question)", "read_question(text)"],
    "meaning": ["candidates(question, tables, column)", "is_answer(question, tables, point)", "answers(question, tables)"],
    "forests": ["crossing(question)", "is_nested(question)", "path_of(question, column)", "children_of(question, column)",
                "roots_of(question)", "way_of(question, atom)", "through(question, column)", "ending(question, column)",
                "on_way(question, atom, row)", "off_way(question, atom, row)", "way_rows(question, tables, atom)",
                "parent_of(question, column)", "end_of(question, atom)", "column_factor(question, column)", "factor(question)"],
    "looks": ["is_look(question, tables, thing)", "told(question, tables, look)", "box_of(look, its)"],
    "boxes": ["is_true_box(question, tables, thing)", "holds(question, box, point)", "is_cover(question, tables, thing)",
              "true_boxes(question, tables)", "box_at(question, tables, point)", "left_by(question, boxes)"],
    "papers": ["boxes_in(paper)", "size_of(paper)", "parts_of(paper)", "shape_told(paper)"],
    "judge": ["is_paper(question, tables, thing)", "plain_paper(question, tables)"],
    "least": ["least(question, tables)", "least_paper(question, tables)", "least_below(question, tables, column, prefix)"],
    "apart": ["apart_points(question, tables)", "is_apart(question, tables, thing)", "common_box(question, tables, one, other)"],
    "shapes": ["line_of(question)", "points_of(question, shape)", "shape_of(question, points)", "meet(one, other)",
               "cut(question, shape, column, low, high)", "without_not(question, shape, atom, rows)", "places_many(shape)",
               "is_shape(question, thing)", "is_in(question, shape, point)", "is_within(one, other)"],
    "counting": ["many_of(shape)", "sum_of(question, shape, column)", "before(question, shape, point)", "pages(shape, many)",
                 "values_of(question, shape, column)", "least_of(question, shape, column)", "greatest_of(question, shape, column)",
                 "index_of(question, shape, point)", "nth(question, shape, index)", "page(question, shape, many, index)"],
    "turns": ["begin(question)", "behind(question, state, its)", "result(question, state)", "wanted(question, state)"],
    "engine": ["run(question, tables)", "run_knowing(question, tables, pairs)", "measured(question, tables)",
               "is_bounded(question, tables)"],
    "readers": ["news_of(question, tables, looks)", "told_rows(question, news, atom)", "away_rows(question, news, atom)",
                "told_boxes(news)", "look_for(box)", "kept_news(question, news)", "are_news(question, tables, thing)",
                "is_sure(question, news, point)", "is_enough(question, news)", "loose_point(question, news)",
                "looks_more(question, tables, news)", "enough_looks(question, tables)"],
    "others": ["other_tables(question, tables, news)", "are_other(question, tables, news, thing)"],
    "kept": ["still_told(question, tables, pairs)", "may_change(question, look, name, row)"],
}
CLASSES = {
    "disk": {"Disk": ["__init__(self, files)", "__eq__(self, other)", "files(self)", "do(self, deeds)", "fuse(self, many, fates)",
                      "power(self)", "has_power(self)", "twin(self)"]},
    "store": {"Store": ["__init__(self, files)", "__eq__(self, other)", "tables(self)", "notes(self)", "commits(self)",
                        "nearest(self, name, prefix, x)", "commit(self, changes)", "mend(self)", "fuse(self, many, fates)",
                        "power(self)", "has_power(self)", "files(self)", "twin(self)"]},
    "kept": {"Kept": ["__init__(self, question, tables)", "put(self, name, row)", "take(self, name, row)", "has(self, point)",
                      "shape(self)", "paper(self)", "question(self)", "done(self)", "many(self)", "known(self)", "tables(self)"]},
    "house": {"House": ["__init__(self, files)", "__eq__(self, other)", "tables(self)", "questions(self)", "commits(self)",
                        "done(self)", "files(self)", "mend(self)", "fuse(self, many, fates)", "power(self)", "commit(self, changes)",
                        "view(self, name, other)", "has_power(self)", "answer(self, name)", "points(self, name)",
                        "measure(self, name)", "twin(self)"]},
    "desk": {"Desk": ["__init__(self, files)", "execute(self, line)", "house(self)"]},
    "errors": {"Wrong": ["__init__(self, place)"], "NoTable": ["__init__(self, name)"], "Twice": ["__init__(self, name)"],
               "BadRow": ["__init__(self, name, row)"], "NoText": ["__init__(self, line)"], "TooMany": ["__init__(self, most)"],
               "NotFit": ["__init__(self, index)"], "NoPoint": ["__init__(self, index)"], "NoName": ["__init__(self, name)"],
               "LookError": [], "NotNested": [], "NoShape": [], "PowerCut": [], "NoCommand": []},
}


def signatures(body):
    """The functions that stand in a body, as they are called."""
    return [f"{node.name}({ast.unparse(node.args)})" for node in body if isinstance(node, ast.FunctionDef)]


class TestInterface(unittest.TestCase):
    def body(self, name):
        return ast.parse((PACKAGE / f"{name}.py").read_text()).body

    def test_functions(self):
        for name, expected in FUNCTIONS.items():
            found = signatures(self.body(name))
            for each in expected:
                self.assertIn(each, found, name)

    def test_classes(self):
        for name, expected in CLASSES.items():
            classes = {node.name: node for node in self.body(name) if isinstance(node, ast.ClassDef)}
            for each, methods in expected.items():
                found = signatures(classes[each].body)
                for method in methods:
                    self.assertIn(method, found, each)

    def test_the_init_file_is_empty(self):
        self.assertEqual((PACKAGE / "__init__.py").read_bytes(), b"")


if __name__ == "__main__":
    unittest.main()
