"""The interface: each name with its arguments, in the module that the document names."""

import importlib
import inspect
import unittest

FUNCTIONS = {
    "webs": ("check_web(thing)", "places(web)", "named_anew(web)", "mirrored(web)", "shifted(web, many)",
             "alike_webs(one, other)"),
    "texts": ("shown(web)", "read(text)"),
    "faces": ("twin(web, dart)", "behind(web, dart)", "faces(web)", "pieces(web)", "holes(web)", "check_flat(web)"),
    "polynomials": ("is_polynomial(thing)", "plus(one, other)", "minus(one, other)", "times(one, other)",
                    "lifted(one, many)", "turned_about(one)"),
    "polytexts": ("shown_polynomial(one)", "read_polynomial(text)"),
    "ways": ("opened(web, ways)", "weight(ways, rings)", "plain_sums(web)"),
    "stores": ("order_of(web)", "fronts(web)", "check_narrow(web)", "stores(web)", "sums(web)"),
    "gluing": ("shut(web, place)", "glued(one, other, many)", "beside(one, other)", "above(one, other)", "quarter(one)",
               "closed(one, way)"),
    "gluedsums": ("shifted_sums(sums, ends, many)", "mirrored_sums(sums)", "shut_sums(sums, ends, place)",
                  "glued_sums(one, one_ends, other, other_ends, many)"),
    "parts": ("Part()", "Level()", "Upright()", "Single()", "Beside(one, other)", "Above(one, other)", "Turned(one)",
              "Mirrored(one)", "read_part(text)"),
    "fractions": ("pair(part)", "taken(polynomial)", "value(twists)", "twisted(twists)", "twisted_sums(twists)"),
    "easing": ("step(twists, step)", "led(twists, steps)", "least_list(fraction)", "eased(twists)"),
    "turnings": ("turnings(web)", "turned(web, turning)", "weight_of(turning)"),
    "strands": ("strands(web)", "how_strung(web)", "turns(web)", "links(web)", "own_sums(web)"),
    "colours": ("is_colouring(web, m, colouring)", "colours(web, m)"),
    "plain": ("told_by(web, gate)", "plain(web)", "naming(one, other)", "is_naming(one, other, naming)"),
    "paces": ("gone(web, row)",),
    "telling": ("shelf(web, most)", "compared(one, other, most=20)"),
    "desk": ("Desk()",),
}
# The methods that each kind of part has.
METHODS = ("web(self)", "sums(self)", "written(self)")
PARTS = ("Level", "Upright", "Single", "Beside", "Above", "Turned", "Mirrored")


class Interface(unittest.TestCase):
    def test_functions(self):
        for module, rows in FUNCTIONS.items():
            loaded = importlib.import_module("tanglehouse." + module)
            for row in rows:
                name = row.partition("(")[0]
                self.assertEqual(name + str(inspect.signature(getattr(loaded, name))), row)

    def look_for_method(self, kind, row):
        name = row.partition("(")[0]
        self.assertEqual(name + str(inspect.signature(getattr(kind, name))), row)

    def test_methods_of_parts(self):
        loaded = importlib.import_module("tanglehouse.parts")
        for part in PARTS:
            for row in METHODS:
                self.look_for_method(getattr(loaded, part), row)

    def test_methods_of_the_desk(self):
        self.look_for_method(importlib.import_module("tanglehouse.desk").Desk, "say(self, row)")


if __name__ == "__main__":
    unittest.main()
