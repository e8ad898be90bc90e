"""The rules of the language subset that can be read off the code: files, sizes, imports, names."""

import ast
import builtins
import os
import unittest

HERE = os.path.join(os.path.dirname(os.path.dirname(os.path.abspath(__file__))), "goodtill")

LIBRARY = {
    "heapq": {"heappush", "heappop", "heapify", "heapreplace", "heappushpop"},
    "math": {"gcd", "lcm", "isqrt", "comb", "perm", "factorial"},
    "itertools": {"product", "combinations", "permutations", "chain", "accumulate", "pairwise", "islice", "zip_longest"},
}
BUILTINS = set(
    "len range enumerate zip min max sum abs sorted reversed int str bool bytes list tuple dict set frozenset isinstance "
    "ord repr any all divmod pow getattr hasattr setattr type iter next map Exception ValueError TypeError KeyError "
    "IndexError LookupError ZeroDivisionError ArithmeticError OverflowError RuntimeError NotImplementedError "
    "AttributeError StopIteration NotImplemented".split()
)
AS_LOCALS = set("object id format credits license copyright quit callable complex ascii oct memoryview aiter anext".split())
METHODS = set(
    "append clear copy count endswith extend find get index insert isalnum isalpha isdigit islower isspace isupper items "
    "join keys ljust lower lstrip partition pop remove replace reverse rfind rjust rpartition rsplit rstrip setdefault "
    "split splitlines startswith strip update upper values zfill bit_length title capitalize swapcase casefold center "
    "expandtabs removeprefix removesuffix rindex isascii isdecimal isnumeric istitle isidentifier isprintable".split()
)
NEVER = set("mro elements open input law version_info with_traceback add_note".split())
WORDS = set(
    "typing typing_extensions enum Enum IntEnum StrEnum Flag IntFlag Generic Protocol ABC ABCMeta namedtuple NamedTuple "
    "TypedDict TYPE_CHECKING abstractmethod dataclass overload contextmanager".split()
)
# What the language bars, and some rarely needed things with long rules of their own that the program does without.
NO_NODES = (
    ast.AsyncFunctionDef, ast.AsyncFor, ast.AsyncWith, ast.Await, ast.Global, ast.Div, ast.AnnAssign, ast.NamedExpr,
    ast.GeneratorExp, ast.Import, ast.Delete, ast.Yield, ast.YieldFrom, ast.SetComp,
)
DOUBLE = set("__init__ __eq__ __repr__ __str__ __len__".split())


def all_files():
    return sorted(os.listdir(HERE))


def text_of(name):
    with open(os.path.join(HERE, name), encoding="utf-8") as file:
        return file.read()


def trees():
    return {name: ast.parse(text_of(name)) for name in all_files() if name.endswith(".py")}


def defined(tree):
    """The names that a file binds itself at module level."""
    names = []
    for node in tree.body:
        if isinstance(node, (ast.FunctionDef, ast.ClassDef)):
            names.append(node.name)
        elif isinstance(node, ast.Assign):
            names += [target.id for target in node.targets]
    return names


def imported(tree):
    """(module, name) of each import."""
    return [(node.module, alias.name) for node in tree.body if isinstance(node, ast.ImportFrom) for alias in node.names]


def bound(function):
    """The parameters and local variables of a function."""
    names = [argument.arg for argument in ast.walk(function) if isinstance(argument, ast.arg)]
    return names + [node.id for node in ast.walk(function) if isinstance(node, ast.Name) and isinstance(node.ctx, ast.Store)]


class Language(unittest.TestCase):
    def test_files_and_characters(self):
        self.assertLessEqual(len(all_files()), 100)
        for name in all_files():
            if name == "__pycache__":
                continue
            self.assertRegex(name, r"^[a-z_][a-z0-9_]*\.py$")
            text = text_of(name)
            self.assertTrue(all(sign == "\n" or " " <= sign <= "~" for sign in text), name)
            self.assertLessEqual(len(text.splitlines()), 399, name)
            self.assertLessEqual(max([len(line) for line in text.splitlines()] or [0]), 120, name)

    def test_sizes_of_functions(self):
        for name, tree in trees().items():
            for node in ast.walk(tree):
                if isinstance(node, ast.FunctionDef):
                    self.assertLessEqual(node.end_lineno - node.lineno + 1, 40, (name, node.name))
                    self.assertEqual(node.decorator_list, [])

    def test_imports(self):
        found = trees()
        needs = {}
        for name, tree in found.items():
            rows = imported(tree)
            needs[name] = set()
            for module, word in rows:
                if module in LIBRARY:
                    self.assertIn(word, LIBRARY[module])
                    continue
                file = module.split(".")[1] + ".py"
                self.assertEqual(module, "goodtill." + file[:-3])
                self.assertIn(word, defined(found[file]), (name, module, word))
                needs[name].add(file)
            used = {node.id for node in ast.walk(tree) if isinstance(node, ast.Name)}
            self.assertEqual([word for _, word in rows if word not in used], [], name)
            names = defined(tree) + [word for _, word in rows]
            self.assertEqual(len(set(names)), len(names), name)
        while needs:
            free = [name for name in needs if not needs[name] & set(needs)]
            self.assertTrue(free, needs)
            for name in free:
                del needs[name]

    def test_module_level(self):
        for name, tree in trees().items():
            for node in tree.body:
                docstring = isinstance(node, ast.Expr) and node is tree.body[0]
                self.assertTrue(docstring or isinstance(node, (ast.ImportFrom, ast.FunctionDef, ast.ClassDef, ast.Assign)), name)
                if isinstance(node, ast.Assign):
                    self.assertEqual([isinstance(target, ast.Name) for target in node.targets], [True])
                    inside = [one for one in ast.walk(node.value) if one is not node.value]
                    self.assertFalse(any(isinstance(one, (ast.List, ast.Dict)) for one in inside), name)
                    self.assertFalse(any(isinstance(one, ast.Call) for one in ast.walk(node.value)), name)

    def test_statements_and_signs(self):
        for name, tree in trees().items():
            for node in ast.walk(tree):
                self.assertNotIsInstance(node, NO_NODES, name)
                if isinstance(node, ast.Constant):
                    self.assertNotIsInstance(node.value, (float, complex, bytes), name)
                    if isinstance(node.value, str):
                        self.assertNotIn("%", node.value, name)
                if isinstance(node, ast.BinOp) and isinstance(node.op, ast.Pow):
                    self.assertIsInstance(node.right, ast.Constant)
                if isinstance(node, ast.Try):
                    self.assertEqual(node.finalbody, [])
                    for handler in node.handlers:
                        self.assertIsInstance(handler.type, ast.Name)
                if isinstance(node, ast.Compare):
                    for sign, right in zip(node.ops, node.comparators):
                        if isinstance(sign, (ast.Is, ast.IsNot)):
                            self.assertIn(ast.unparse(right), ("None", "True", "False"))

    def test_names(self):
        for name, tree in trees().items():
            taken = set(dir(builtins))
            own = set(defined(tree)) | {word for _, word in imported(tree)}
            classes = {node.name for node in tree.body if isinstance(node, ast.ClassDef)}
            barred = classes | {word for _, word in imported(tree)}
            self.assertFalse(own & taken, name)
            for node in ast.walk(tree):
                if isinstance(node, ast.FunctionDef):
                    locals_of = set(bound(node))
                    self.assertFalse(locals_of & barred, (name, node.name, locals_of & barred))
                    self.assertFalse(locals_of & taken - AS_LOCALS, (name, node.name))
                    self.assertFalse(locals_of & (NEVER | WORDS), (name, node.name))
                    if node.name.startswith("__"):
                        self.assertIn(node.name, DOUBLE)
                if isinstance(node, ast.Name) and isinstance(node.ctx, ast.Load) and node.id in taken:
                    self.assertIn(node.id, BUILTINS | AS_LOCALS, name)
                if isinstance(node, ast.Name):
                    self.assertNotIn(node.id, WORDS | NEVER)
                    self.assertFalse(node.id == "_" and isinstance(node.ctx, ast.Load), name)

    def test_methods(self):
        found = trees()
        own = set()
        for tree in found.values():
            for node in ast.walk(tree):
                if isinstance(node, ast.ClassDef):
                    own |= {one.name for one in node.body if isinstance(one, ast.FunctionDef)}
        self.assertFalse(own & METHODS)
        for name, tree in found.items():
            for node in ast.walk(tree):
                if isinstance(node, ast.Call) and isinstance(node.func, ast.Attribute):
                    self.assertIn(node.func.attr, METHODS | own, name)
                    self.assertFalse(node.func.attr in METHODS and node.keywords, name)

    def test_what_is_iterated_is_iterated_at_once(self):
        at_once = set("list tuple dict sorted sum any all enumerate zip min max".split())
        for name, tree in trees().items():
            within = {child: node for node in ast.walk(tree) for child in ast.iter_child_nodes(node)}
            for node in ast.walk(tree):
                if not isinstance(node, ast.Call):
                    continue
                plain = isinstance(node.func, ast.Name) and node.func.id in ("range", "zip", "enumerate", "reversed")
                view = isinstance(node.func, ast.Attribute) and node.func.attr in ("items", "keys", "values")
                if plain or view:
                    outer = within[node]
                    loop = isinstance(outer, (ast.For, ast.comprehension)) and outer.iter is node
                    call = isinstance(outer, ast.Call) and isinstance(outer.func, ast.Name) and outer.func.id in at_once
                    ranges = isinstance(outer, ast.Call) and ast.unparse(outer).startswith(("reversed(range(", "len(range("))
                    self.assertTrue(loop or call or ranges, (name, ast.unparse(outer)))

    def test_no_remainder_in_a_string(self):
        for name, tree in trees().items():
            for node in ast.walk(tree):
                if isinstance(node, ast.JoinedStr):
                    self.assertFalse(any(isinstance(one, ast.Mod) for one in ast.walk(node)), name)

    def test_loops_do_not_change_what_they_go_over(self):
        changing = set("append clear extend insert pop remove reverse setdefault update".split())
        for name, tree in trees().items():
            for loop in ast.walk(tree):
                if not isinstance(loop, ast.For):
                    continue
                over = {ast.unparse(one) for one in ast.walk(loop.iter) if isinstance(one, (ast.Name, ast.Attribute))}
                for node in ast.walk(ast.Module(loop.body, [])):
                    if isinstance(node, ast.Call) and isinstance(node.func, ast.Attribute) and node.func.attr in changing:
                        self.assertNotIn(ast.unparse(node.func.value), over, name)

    def test_sets_are_not_stored(self):
        for name, tree in trees().items():
            for node in ast.walk(tree):
                self.assertNotIsInstance(node, ast.Set)
                if isinstance(node, (ast.Assign, ast.Return)) and isinstance(node.value, ast.Call):
                    self.assertNotEqual(ast.unparse(node.value.func), "set", name)


class Interface(unittest.TestCase):
    """What has landed of the interface stands where the document lists it."""

    NAMES = {
        "errors": "OwnError BadFraction BadLabel BadName BadOctets BadEvent BadView BadRoster BadRun BadDeed BadText Refused",
        "rates": "check_fraction(value) fraction_of(n,d) plus(one,two) minus(one,two) times(one,two) over(one,two) "
                 "is_below(one,two) top_of(row) low_of(row) fraction_text(one) read_fraction(text)",
        "labels": "check_label(value) check_name(value) is_inside(low,label,high) gap_of(labels,label) joined_name(target,rest)",
        "wire": "encode_event(event) encode_stream(events) pack_events(events) decode_event(octets) unpack_events(octets) "
                "decode_stream(octets)",
        "events": "check_event(value) check_entry(value) check_roster(value)",
        "views": "check_view(value) past_of(events,event_id) is_behind(events,event_id,other) line_of(events,node) "
                 "newest_of(events,node) view_of(events,node) life_gaps(events) common_view(events,node)",
        "webs": "ways_from(roster,events,event_id) ways_to(roster,events,event_id) positive_ring(roster,events) "
                "ring_serves(roster,events,ring) Web.__init__(self,roster) Web.add(self,event) Web.way(self,x,y) "
                "Web.ids(self) web_of(roster,events)",
        "fits": "fit_fault(roster,events,instants) earliest_fit(roster,events,event_id,back) "
                "latest_fit(roster,events,event_id) mixed_fit(one,two,part) met_wishes(roster,events,wishes)",
        "runs": "World.__init__(self,roster) World.add(self,event,instant) World.run(self) World.view(self,node) "
                "World.walk(self,name,most) check_run(roster,run) seen_by(run,place,node) lost_puts(run) "
                "walk_truth(run,place,name,most) is_stale(run,place) are_alike(one,two,event_id)",
        "pages": "keeper_of(events,term) does_keep(events,node,term) content_of(events,term,label) page_rows(events,term) "
                 "page_gap(events,term,label)",
        "tree": "walk_view(events,name,most) way_to(events,term,label) is_broken(events,term) is_fast(events,node,term)",
        "promises": "span_of(events,give) gives_on(events,term,label) holders_of(events,give) has_sworn(events,give,node) "
                    "does_stand(roster,events,node,give) is_past(roster,events,node,give) ticks_left(roster,events,node,give)",
        "finders": "why_certain(roster,events,node,term,label) may_tell(roster,events,node,name,most) "
                   "good_ticks(roster,events,node,name,most)",
        "pocket": "pocket_of(roster,events,node)",
        "houses": "entry_points(events,node) shut_places(events,node,term,label) why_alive(roster,events,node,give) "
                  "may_put(roster,events,node,term,label) put_wait(roster,events,node,term,label) own_end(events,node,term,label)",
        "recall": "left_to_swear(roster,events,node,term,label) fewest_swears(roster,events,node,term,label) "
                  "sworn_view(events,rows,node)",
        "custody": "keeper_rows(events,term) owed_gives(events,node,term) unknown_to_keeper(run,place,term) "
                   "standing_terms(run,place)",
        "carry": "letter_events(events,send_id) joined_view(view,letter)",
        "tables": "Table.__init__(self,roster,node) Table.tell(self,event) Table.live(self) Table.live_common(self) "
                  "Table.way(self,x,y) Table.way_common(self,x,y) Table.stands(self,give) Table.past(self,give) "
                  "Table.alive(self,give) Table.wait(self,term,label) Table.good(self,name,most)",
        "journal": "Journal.__init__(self,node) Journal.write(self,event) Journal.flush(self) Journal.cuts(self) "
                   "Journal.text(self) read_journal(text)",
        "asking": "way_keepers(run,node,name,most) is_fresh(run,node,name,most) letters_heard(run,place) "
                  "asked_run(roster,run,node,name,most)",
        "slipjudge": "slip_serves(roster,events,node,name,most,answer,run)",
        "hastejudge": "haste_serves(roster,events,node,term,label,entry,run)",
        "slips": "slip_run(roster,events,node,name,most,answer)",
        "hastes": "haste_run(roster,events,node,term,label,entry)",
        "stops": "needed_flush(roster,events,node,flushed,deed) harm_of(run) stop_run(roster,events,node,flushed,deed) "
                 "stop_serves(roster,events,node,flushed,deed,run) Keeper.__init__(self,roster,node) Keeper.start(self,reading) "
                 "Keeper.do(self,event,letter) Keeper.cuts(self) Keeper.stop(self,rows) Keeper.view(self)",
        "whole": "whole_meter(roster,run,place,names,most) wider_run(roster,events,node,deed)",
        "desk": "Desk.__init__(self) Desk.say(self,line)",
        "fields": "Field.__init__(self,roster,length) Field.run(self) Field.under_way(self) Field.done(self) Field.do(self,deed)",
    }

    def test_names_and_arguments(self):
        found = trees()
        for module, names in self.NAMES.items():
            told = {}
            for node in found[module + ".py"].body:
                if isinstance(node, ast.FunctionDef):
                    told[node.name + "(" + ",".join(one.arg for one in node.args.args) + ")"] = True
                if isinstance(node, ast.ClassDef):
                    told[node.name] = True
                    for method in node.body:
                        if isinstance(method, ast.FunctionDef):
                            parts = ",".join(one.arg for one in method.args.args)
                            told[f"{node.name}.{method.name}({parts})"] = True
            for name in names.split():
                self.assertIn(name, told)


if __name__ == "__main__":
    unittest.main()
