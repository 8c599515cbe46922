"""Each name of the interface is defined in its own file, with the told arguments."""

import importlib
import inspect
import unittest

INTERFACE = {
    "stillread.base.names": """
        is_cell(value) is_cells(value) is_name(value) name_cells(name) cells_name(first,second)""",
    "stillread.base.polys": """
        is_poly(value) value_at(poly,cell) poly_sum(one,other) poly_less(one,other) poly_scaled(poly,number)
        poly_product(one,other) poly_divided(one,other) none_at(places) through(points) numbers_at(places,cell)
        first_off(points,many) is_off(points,many,value) kernel(rows,many)""",
    "stillread.text.cells": """
        is_text(value) is_window(value) cells_text(cells) told_cells(text) window_text(cells) window_cells(text)
        windows(text) pieces(text) windows_in(text,begin,end) windows_across(one,other)""",
    "stillread.text.frames": """
        made_frame(body) frame_cells(body) told_frame(text) found_frames(text) bodies_in(text) agreeing(one,other)
        other_body(body,indices) is_other_body(body,indices,value) spliced(one,other,at)""",
    "stillread.text.damage": """
        is_script(text,value) damaged(text,script) origins(text,script) stretches(text,script)
        kept_windows(text,script) fresh_windows(text,script) is_fair(text,script) is_surely_fair(text,script)
        spoiling(text,places) is_spoiling(text,places,value)""",
    "stillread.plain.trees": """
        is_tree(value) is_deed(value) done(tree,deed) refusal(tree,deed) new_cells(deed) touched(deed)""",
    "stillread.plain.histories": """
        is_save_name(value) is_save(value) is_history(value) history_fault(value) row_to(history,save)
        version(history,save) origins(history,save,name) versions(history) heads(history)
        common_base(history,one,other) rows_number(deed) time_sequence(names,pairs)
        is_time_sequence(names,pairs,value)""",
    "stillread.lots.spread": """
        is_body(value) told_body(body) marks(body) with_payload(body,index,payload) payloads(cells,n)
        frames_of(archive,save,ahead) all_frames(archive,history)""",
    "stillread.lots.gather": """
        is_lot(value) lots_of(frames) known_places(lot,column) lot_clash(lot) is_lot_clash(lot,value) cell_answer(lot,at)
        is_cell_paper(lot,at,cell,value) is_open_paper(lot,at,value) told_cells(lot) told_payload(lot,index)
        fitting_cells(lot) is_fitting(lot,value) fit_number(lot) unlike_cells(lot,at) are_unlike_cells(lot,at,value)""",
    "stillread.lots.wrong": """
        serves(k,sure,poly) faults(k,sure,word,poly) most_wrong(k,sure,word) near_poly(k,sure,word,wrong)
        none_paper(k,sure,word,wrong) is_none_paper(k,sure,word,wrong,value) all_near(k,sure,word,wrong)
        two_near(k,sure,many,standing,wrong) is_two_near(k,sure,many,standing,wrong,value)
        lot_cells(length,payloads,wrong) lot_paper(length,payloads,wrong) is_lot_paper(length,payloads,wrong,value)""",
    "stillread.read.marks": """
        is_mark(value) is_sketch(value) is_row(value) mark_of(tree,deed) deed_of(mark,cells) row_length(row)
        row_part(row,first,stop) row_joined(rows) origin(row,at)""",
    "stillread.read.pieces": """way_of(sketch,save) ground_of(sketch,save) Outline(ground) outline_of(sketch,save)""",
    "stillread.read.constraints": """
        gaps(sketch) above(sketch,gap) says(sketch,save) clash_of(sketch) is_clash_of(sketch,value) said(sketch,gap)
        fitting_tree(sketch,gap) is_fitting(sketch,gap,value) sights(frames) sketch_of(frames) clash(frames)""",
    "stillread.read.told": """reach(frames,save,name) answer_of(frames,question) Reading(frames)""",
    "stillread.read.unlike": """
        free_numbers(frames) is_filling(frames,value) some_filling(frames) filling_of(frames,history)
        filled(frames,filling) version_by(frames,filling,save) unlike_histories(frames,question)""",
    "stillread.mend.mender": """told_frames(frames) is_closed(frames) lacks(frames) mended(text) clean(text)""",
    "stillread.need.least": """
        further_indices(lot,wanted) are_further_indices(lot,wanted,value) least_further(frames,save,name)
        is_least_further(frames,save,name,value) least_loss(history,save,name,at)
        is_least_loss(history,save,name,at,value) borne(history,save,name)""",
    "stillread.need.spread": """
        strands(lots) greatest_window(lots) spreading(lots) borne(lots,order) weak_stretch(lots,order)
        spread_answer(lots,many) is_spread_paper(spread,value) cut_signs(many) spread_text(frames)""",
    "stillread.keep.archive": """known_saves(text,archive) Archive(archive,hand)""",
    "stillread.keep.folds": """
        steps(one,other) distance(one,other) fold(trees,hand,more) is_fold(trees,value) fold_number(trees)
        kept(frames,saves,hand,more)""",
    "stillread.use.texts": """
        deed_text(deed) question_text(question) tree_text(tree) history_text(history) answer_text(question,answer)
        read_deed(value) read_question(value) read_tree(value) read_history(value)""",
    "stillread.use.shell": """Shell(archive,hand)""",
    "stillread.paper.checker": """
        is_question(value) takes(frames,question,answer,paper) is_clash(frames,value) has_frames(history,frames)
        answer_in(history,question) is_unlike(frames,question,value)""",
}
METHODS = {
    ("stillread.read.pieces", "Outline"): "behind(save,mark) does_fit(tree) filled(tree,cells) __eq__(other) __len__()",
    ("stillread.keep.archive", "Archive"): """
        add(deed,base,more) hear(text) version(save) known(save) history() __contains__(value) __len__() __str__()""",
    ("stillread.read.told", "Reading"): """
        answer(question) known_entries(save) is_rooted(save) is_whole(save) open_cells(save) versions() __eq__(other)
        __len__() __str__()""",
    ("stillread.use.shell", "Shell"): """run(line) run_all(lines) __str__()""",
}
PROPERTIES = {
    ("stillread.read.pieces", "Outline"): "ground entries asks gone",
    ("stillread.keep.archive", "Archive"): "archive hand text names heads made",
    ("stillread.read.told", "Reading"): "frames saves gaps",
    ("stillread.use.shell", "Shell"): "text place",
}
CONSTANTS = {
    "stillread.base.names": {"PRIME": 997, "MAX_CELL": 996, "MAX_NAME": 4},
    "stillread.base.polys": {"MOST_CELLS": 60},
    "stillread.text.cells": {"MOST_SIGNS": 60000, "WINDOW_SIGNS": 122, "WINDOW_CELLS": 40, "MOST_DIGITS": 20000},
    "stillread.text.frames": {"FRAME_CELLS": 40, "BODY_CELLS": 20},
    "stillread.text.damage": {"MOST_ACTS": 60},
    "stillread.lots.spread": {"BODY": 20, "ROW": 6, "MAX_NEW": 48, "MOST_FRAMES": 16},
    "stillread.lots.wrong": {"MOST_FRAMES": 16, "MOST_ROWS": 8},
    "stillread.plain.trees": {"MOST_LENGTH": 996, "MOST_NEW": 48},
    "stillread.plain.histories": {"MOST_FRAMES": 16, "ROW": 6},
    "stillread.keep.archive": {"MOST_SAVES": 60, "MOST_TEXT": 60000},
    "stillread.read.unlike": {"MOST_PUTS": 13000},
    "stillread.need.spread": {"MOST_LOTS": 12, "MOST_FRAMES": 16},
    "stillread.keep.folds": {"MOST_TREES": 12, "MOST_NUMBER": 996},
}


class InterfaceTest(unittest.TestCase):
    def test_functions(self):
        for name, block in INTERFACE.items():
            module = importlib.import_module(name)
            for told in block.split():
                word, rest = told.rstrip(")").split("(")
                function = getattr(module, word)
                self.assertEqual(function.__module__, name, word)
                self.assertEqual(list(inspect.signature(function).parameters), rest.split(","), word)

    def test_methods(self):
        for (name, word), block in METHODS.items():
            told = vars(getattr(importlib.import_module(name), word))
            for method, rest in [one.rstrip(")").split("(") for one in block.split()]:
                wanted = ["self"] + [parameter for parameter in rest.split(",") if parameter]
                self.assertEqual(list(inspect.signature(told[method]).parameters), wanted, (word, method))
            for one in PROPERTIES[(name, word)].split():
                self.assertIsInstance(told[one], property, (word, one))
    def test_constants(self):
        for name, told in CONSTANTS.items():
            module = vars(importlib.import_module(name))
            self.assertEqual({word: module[word] for word in told}, told)

    def test_keywords(self):
        for word, ahead in (("fold", ["trees", "hand"]), ("kept", ["frames", "saves", "hand"])):
            told = inspect.signature(getattr(importlib.import_module("stillread.keep.folds"), word)).parameters
            self.assertEqual([list(told), told["more"].kind, told["more"].default],
                             [ahead + ["more"], inspect.Parameter.KEYWORD_ONLY, 0])
        archive = importlib.import_module("stillread.keep.archive").Archive
        self.assertIsInstance(vars(archive)["continued"], classmethod)
        self.assertEqual(list(inspect.signature(archive.continued).parameters), ["text", "archive", "hand"])
        add = inspect.signature(archive.add).parameters
        self.assertEqual([(add[word].kind, add[word].default) for word in ("base", "more")],
                         [(inspect.Parameter.KEYWORD_ONLY, None), (inspect.Parameter.KEYWORD_ONLY, 0)])


if __name__ == "__main__":
    unittest.main()
