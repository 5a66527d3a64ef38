"""The interface: names, arguments and the files in which they are defined."""

import importlib
import inspect
import os
import unittest

# For each file its functions with their arguments, as the interface lists them.
INTERFACE = {
    "ranges": "is_set(value) contains(a,number) is_within(a,b) set_of(pairs) both(a,b) either(a,b) without(a,b)"
              " outside(a,top) members(a) ends_of(sets,top) write_set(a) read_set(text)",
    "prefixes": "is_prefix(value) is_exchange(value) held(prefix) exchanged_set(exchange,a) cover(a)"
                " longest(prefixes,address) exchanged(exchange,address)",
    "sums": "folded(words) sum_of(row) mended(check,old,new)",
    "packets": "is_packet(value) length_of(packet) write_packet(packet) read_packet(row)",
    "views": "is_sight(value) is_history(value) sight_of(interface,packet) packet_of(sight)",
    "talks": "key_of(sight) sender_of(sight) side_of(state,sender) talk_code(kind,state,sender,flags)"
             " moved(kind,state,sender,flags) view_of(sight,state)",
    "books": "is_book(value) rule_places(book) without_rule(book,place) with_rule(book,place,rule)"
             " with_default(book,word,default)",
    "walking": "walk(book,view) decide(book,view)",
    "boxes": "is_box(value) in_box(box,view) whole_box() box_of(view)",
    "cuts": "settled(book,box) cut_tree(book,box) check_cuts(book,box,value) count_views(book,box,decision)",
    "plans": "plan_of(book) tidied(plan) joined_plans(first,second,pairs) narrowed(plan,field,low,high)"
             " is_plan(value) led(plan,view) counted(plan,decision) differing(first,second)",
    "rows": "is_row(value) run_row(row,history) states_after(row,history) decisions_at(row,states,sight)",
    "watches": "is_watch(value) comes_true(watch,history)",
    "closing": "whole_lane() paper_of(watch) check_paper(watch,value)",
    "questions": "alike(first,second) ever(row,conditions,decision) breaks(old,new) shortest(watch)",
    "needed": "hidden_rules(book) needless_rules(book) least_book(book)",
    "sightcounts": "count_first(book,decision)",
    "tallies": "tally(book,history) woven(histories,order)",
    "doubles": "is_double(value) book_at(double,thrown) switches(double) double_of(old,new)",
    "steps": "between(a,b,c) step_paper(double) check_steps(double,value) smooth_orders(double)",
    "machine": "is_program(value) run_program(program,packet,view)",
    "byteboxes": "is_byte_box(value) lies_in(box,packet,view)",
    "meaning": "meaning_paper(program,book) check_meaning(program,book,value) means(program,book)",
    "compiling": "compiled(book)",
    "trimming": "trimmed(program) longest_run(program)",
    "booktexts": "write_book(book) write_exchange(exchange) write_sight(sight) read_book(text) read_exchange(text) read_sight(text)",
    "dumps": "dumped(gate) loaded(text)",
    "journals": "is_journal(value) first_wrong(journal) recorded(book,exchange,deeds) shortened(journal,key) blame(journal,number)",
    "onekey": "reached(row,key) way_to(row,key,states) passing(row,key,states) passing_lengths(row,key,states,letter)",
    "cases": "cases_of(book) flattened(book)",
    "suites": "covered(book,histories) suite_of(book) is_suite(book,histories)",
    "programtexts": "write_program(program) read_program(text) relinked(program,order)",
}

# For each file its classes, each with the arguments that it is made by and its methods.
CLASSES = {
    "gate": {"Gate": "__init__(self,book,exchange) receive(self,interface,row) talks(self) counts(self) forget(self,key)"
                     " set_book(self,book) book(self) exchange(self)"},
    "desk": {"Desk": "__init__(self) set_book(self,word,book) drop_book(self,word) add_gate(self,word,name,exchange)"
                     " drop_gate(self,word) set_gate(self,word,name) receive(self,word,interface,row) forget(self,word,key)"
                     " undo(self) books(self) gates(self) book(self,word) dump(self,word) gate_book(self,word)"
                     " ask(self,names,others) move(self,word,name)"},
    "console": {"Console": "__init__(self) enter(self,line)"},
}


class Interface(unittest.TestCase):
    def test_classes(self):
        for name, classes in CLASSES.items():
            module = importlib.import_module(f"gatewarden.{name}")
            for class_name, listed in classes.items():
                found = getattr(module, class_name)
                self.assertEqual(found.__module__, module.__name__)
                for entry in listed.split():
                    method, arguments = entry[:-1].split("(")
                    self.assertIn(method, vars(found))
                    self.assertEqual(",".join(inspect.signature(vars(found)[method]).parameters), arguments, entry)

    def test_functions(self):
        for name, listed in INTERFACE.items():
            module = importlib.import_module(f"gatewarden.{name}")
            for entry in listed.split():
                function_name, arguments = entry[:-1].split("(")
                function = getattr(module, function_name)
                self.assertTrue(inspect.isfunction(function), entry)
                self.assertEqual(function.__module__, module.__name__, entry)
                found = ",".join(inspect.signature(function).parameters)
                self.assertEqual(found, arguments, entry)

    def test_package_is_one_folder_at_the_top(self):
        import gatewarden
        here = os.path.dirname(os.path.dirname(os.path.abspath(__file__)))
        self.assertEqual(os.path.dirname(os.path.abspath(gatewarden.__file__)), os.path.join(here, "gatewarden"))
        for name in os.listdir(os.path.join(here, "gatewarden")):
            self.assertTrue(name.endswith(".py") or name == "__pycache__", name)
            self.assertFalse(name.startswith("test"), name)


if __name__ == "__main__":
    unittest.main()
