"""Each name of the interface is defined in its own file, with the told arguments."""

import importlib
import inspect
import unittest

INTERFACE = {
    "stillread.base.names": """
        is_cell(value) is_cells(value) is_name(value) name_cells(name) cells_name(first,second)""",
    "stillread.base.polys": """
        is_poly(value) value_at(poly,cell) poly_sum(one,other) poly_less(one,other) poly_scaled(poly,number)
        poly_product(one,other) poly_divided(one,other) none_at(places) through(points) numbers_at(places,cell)
        first_off(points,many) is_off(points,many,value) kernel(rows,many)""",
    "stillread.text.cells": """
        is_text(value) is_window(value) cells_text(cells) told_cells(text) window_text(cells) window_cells(text)
        windows(text) pieces(text) windows_in(text,begin,end) windows_across(one,other)""",
    "stillread.text.frames": """
        made_frame(body) frame_cells(body) told_frame(text) found_frames(text) bodies_in(text) agreeing(one,other)
        other_body(body,indices) is_other_body(body,indices,value) spliced(one,other,at)""",
    "stillread.text.damage": """
        is_script(text,value) damaged(text,script) origins(text,script) stretches(text,script)
        kept_windows(text,script) fresh_windows(text,script) is_fair(text,script) is_surely_fair(text,script)
        spoiling(text,places) is_spoiling(text,places,value)""",
    "stillread.plain.trees": """
        is_tree(value) is_deed(value) done(tree,deed) refusal(tree,deed) new_cells(deed) touched(deed)""",
    "stillread.plain.histories": """
        is_save_name(value) is_save(value) is_history(value) history_fault(value) row_to(history,save)
        version(history,save) origins(history,save,name) versions(history) heads(history)
        common_base(history,one,other) rows_number(deed) time_sequence(names,pairs)
        is_time_sequence(names,pairs,value)""",
}


class InterfaceTest(unittest.TestCase):
    def test_functions(self):
        for name, block in INTERFACE.items():
            module = importlib.import_module(name)
            for told in block.split():
                word, rest = told.rstrip(")").split("(")
                function = getattr(module, word)
                self.assertEqual(function.__module__, name, word)
                self.assertEqual(list(inspect.signature(function).parameters), rest.split(","), word)


if __name__ == "__main__":
    unittest.main()
