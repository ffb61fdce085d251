import importlib
import inspect
import pathlib
import re
import unittest

# For each module: its functions with their parameters, and its classes with those of their own methods;
# properties and other values stand without parentheses.
INTERFACE = {
    "words": "WHITE WAYS SIDES is_word(thing) is_cell(thing) is_palette(thing) neighbours(cell)",
    "shelf": "Shelf(inks): names hues __getitem__ __contains__ __len__ __iter__ __eq__ laid(colour,name) stack(names)",
    "picture": """Picture(cells=()): __getitem__ __contains__ __len__ __iter__ __eq__ hues box moved(rows,columns)
        turned(height,width) of(rows,*,top=0,left=0);
        runs(picture,way,colour) pieces(picture,colour) holes(picture)""",
    "plate": """Plate(cells=()): __contains__ __len__ __iter__ __eq__ __add__ __sub__ moved(rows,columns)
        turned(height,width) block(top,left,height,width)""",
    "press": """Press(shelf,units,boxes=()): names lies mirror __len__ __iter__ __eq__ off(lie) number_of(lie)
        shift(number,lie) unit_of(name)""",
    "job": "Job(press,plates): __eq__ shown(lie) printed(cell,lie) true_picture with_plate(number,plate)",
    "claims": """is_claim(thing) is_local(thing) is_row_claim(thing) holds(claim,page,picture)
        places(claim,page,picture) breach(wish,page,picture)""",
    "book": """Book(rules=()): names __getitem__ __len__ __iter__ __eq__ __add__ but(number) counting(page,cell)
        inks_at(page,cell) made(press,page)""",
    "drawing": """Drawing(stamps=(),deeds=()): __len__ __iter__ __eq__ drawn(*,rows=0,columns=0) unrolled() painted
        __add__; hidden(drawing) lean_drawing(drawing) plain_drawing(picture)""",
    "forms": "forms(claim,colours) met(form,page,picture,*,rows=0,columns=0)",
    "asking": "read_told(book,told,cell) want_told(press,book,lie,told,want)",
    "cases": """Cases(press,book,colours,claim,*,bars=()): __bool__ __len__ __iter__;
        judge_cases(press,book,colours,claim,table,*,bars=())""",
    "pagebars": "PageBars(press,book,colours,claim,pairs): __bool__ __len__ __iter__ __contains__",
    "band": """Band(press,colours,*,pace=1,bars=()): lies beginning onward(behind,lies) after(behind,step)
        seen(book,behind,step) with_bars(*pairs); tape_seen(band,book,tape,lies)""",
    "readers": "Reader(claim): BROKEN __call__(state,seen,colour) broken_at(seen,tape)",
    "tapeverdict": "TapeVerdict(band,book,claim): __bool__ __len__ __iter__; judge_tapes(band,book,claim,table)",
    "plan": """Plan(motifs,joints=(),first=(),last=()): __len__ __iter__ __eq__ __contains__ tape_of(design) live
        follows(place) colour_of(place) designs(most) without(*joints)""",
    "pagetext": "write_page(drawing) read_page(lines)",
    "shelftext": """write_shelf(shelf) write_press(press) write_book(book) read_shelf(lines) read_press(lines)
        read_book(lines)""",
    "dockettext": """write_picture(picture) write_plate(plate) write_docket(job,page,wish) read_picture(lines)
        read_plate(lines) read_docket(lines)""",
    "stacks": "Stacks(shelf): __contains__ __len__ __iter__ stack_of(colour); judge_stacks(shelf,table)",
    "shelfpair": "ShelfPair(first,second): __bool__ __len__ __iter__; judge_shelves(first,second,table)",
    "swaps": "exchange(shelf,first,second) steady(shelf,name) hides(shelf,upper,lower)",
    "palette": "ways(shelf,order,colour); Palette(shelf,wishes): __bool__ __len__ __iter__",
    "late": "LateMix(press,name,first,second): __bool__ mixed(job)",
    "verdict": "Verdict(job,page,wish): __bool__",
    "jobpair": "JobPair(first,second): __bool__; swapped(job,number)",
    "traps": """spread(job,page,number,colour); Traps(job,page,wish,menu): __bool__ __len__ __iter__ served(lies) done(trap);
        judge_traps(job,page,wish,menu,table)""",
    "looks": "Looks(job,cells,aims=None): __bool__ __len__ __iter__ sight(number)",
    "bookpair": """BookPair(first,second,colours): __bool__ __len__ __iter__;
        judge_books(first,second,colours,table)""",
    "rulework": """least_pages(book,colours) idle_rules(book,colours) needless_rules(book,colours)
        lean_book(book,colours)""",
    "remedies": """Remedies(press,book,colours,claim,rules): __bool__ __len__ __iter__ __contains__ mended(lot)""",
    "passplans": "PassPlans(shelf,names,box,most,book,colours,claim): __bool__ __len__ __iter__ press_of(plan)",
    "orders": "Orders(press,book,colours,claim): __bool__ __len__ __iter__ press_of(order)",
    "reach": "Reach(book,name,colours): __contains__ __len__ __iter__",
    "bench": """Bench(press,book,page): page result history recolour(*changes) back(many=1) __enter__ __exit__;
        restart(bench,page) tried(bench,*rows)""",
    "patch": """Patch(steps=()): __len__ __iter__ __eq__ __call__(plate) __add__ but(number) always offsets special
        images(cell)""",
    "patchpair": "PatchPair(first,second): __bool__ __len__ __iter__; judge_patches(first,second,table)",
    "patchlean": """exchanged(first,second) undoes(first,second) needless_steps(patch) lean_patch(patch)
        loses(patch)""",
    "tapepair": "TapePair(band,first,second): __bool__ __len__ __iter__; judge_tape_pair(band,first,second,table)",
    "tapebars": "TapeBars(band,book,claim,pairs): __bool__ __len__ __iter__ __contains__",
    "toldback": "ToldBack(plan): __bool__ __len__ __iter__; judge_told_back(plan,table)",
    "within": "Within(first,second): __bool__ __len__ __iter__; judge_within(first,second,table) same_tapes(first,second)",
    "hand": """Hand(press,looks,rows=()): __len__ __iter__ __eq__ __call__(sight) sight(job,number);
        turned_lie(press,number,turn) followers(press,number,pace)""",
    "course": "Course(job,hand,*,pace=1,start=0): turned(number) follows(number) is_run(numbers) sheets(numbers)",
    "runverdict": """RunVerdict(course,page,wish): __bool__ __len__ __iter__; judge_run(course,page,wish,lot)
        waste(course,page,wish)""",
    "known": "Known(job,looks,turns,*,pace=1,first=(0,)): __len__ __iter__ parts(number) after(number,part,turn)",
    "keep": """Keep(known,page,wish): __bool__ __len__ __iter__ value(number) plan(number,part) attack(number);
        judge_keep(job,looks,turns,page,wish,table,*,pace=1,first=(0,))""",
    "leastsights": "LeastSights(job,looks,turns,page,wish,*,pace=1,first=(0,)): __bool__ __len__ __iter__ __contains__",
    "lost": "Lost(job,number,pulls): __bool__ fits(plate) with_cell(cell) without_cell(cell)",
    "remake": "Remake(press,number): __bool__ __len__ __iter__ remade(job,lie,pull)",
    "tells": "Tells(book,colours,kept,aim=None): __bool__ __len__ __iter__; judge_tells(book,colours,kept,aim,table)",
    "keptinks": "KeptInks(book,colours,inks): __bool__ __len__ __iter__ __contains__",
    "layout": """Layout(height,width,copies): __getitem__ __len__ __iter__ __eq__ sheet(job) view(picture,number,*,margin=0)
        apart(margin); opposite(lie)""",
    "sheetverdict": "SheetVerdict(layout,job,page,wish,*,margin=0): __bool__",
    "cuts": "Cuts(layout): __bool__ __len__ __iter__; first_cut(layout,lot)",
    "designverdict": """DesignVerdict(band,book,plan,claim): __bool__ __len__ __iter__;
        judge_designs(band,book,plan,claim,table)""",
}


def told_parameters(function):
    told = str(inspect.signature(function)).replace(" ", "")[1:-1]
    return told.removeprefix("self,").removeprefix("self")


class InterfaceTest(unittest.TestCase):
    def check(self, holder, told, module):
        name, _, rest = told.partition("(")
        self.assertIn(name, vars(holder), told)
        if rest:
            function = getattr(holder, name)
            self.assertEqual(told_parameters(function), rest[:-1], f"{holder.__name__}.{name}")
            self.assertEqual(function.__module__, module)

    def test_all_headings(self):
        # All modules stand under a heading, but for what they share, and for the errors, which test_errors_words checks.
        folder = pathlib.Path(__file__).resolve().parent.parent / "strayplates"
        files = {path.stem for path in folder.glob("*.py")}
        self.assertEqual(files - {"__init__", "common", "errors"}, set(INTERFACE))
        self.assertEqual(len(INTERFACE), 57)

    def test_document(self):
        """Where the document stands beside the project, its headings are these."""
        document = pathlib.Path(__file__).resolve().parent.parent.parent / "shared" / "DOC.md"
        if document.exists():
            headings = re.findall(r"^## strayplates/(\w+)\.py$", document.read_text(encoding="utf-8"), re.M)
            self.assertEqual(sorted(headings), sorted([*INTERFACE, "errors"]))

    def test_names_and_parameters(self):
        for word, told in INTERFACE.items():
            module = importlib.import_module(f"strayplates.{word}")
            for part in told.split(";"):
                head, colon, members = part.partition(":")
                if colon:
                    self.check(module, head.strip(), module.__name__)
                    cls = getattr(module, head.strip().partition("(")[0])
                    self.assertTrue(inspect.isclass(cls))
                    for member in members.split():
                        self.check(cls, member, module.__name__)
                else:
                    for function in part.split():
                        self.check(module, function, module.__name__)


if __name__ == "__main__":
    unittest.main()
