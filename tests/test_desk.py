import unittest

from tests.plain import all_tops, chain, mixed_wood, plain_row, states
from tests.plain_desk import OF_ONE_KNOT, PlainDesk
from tightwood.desk import Desk
from tightwood.errors import Nameless, Nobody, NoDeed, NoFit, NoGraft, NoKnot, NoLine, NoNumber, TooLarge, WoodError
from tightwood.tables import many_woods

# One of each row: all are understood.
ROWS = [
    "wood a 1110010010", "made b 3 4", "row a opened", "row a levels", "row a counts", "elder a 2", "first a 0",
    "last a 0", "right a 1", "left a 3", "many a 0", "beneath a 0", "depth a 2", "nth a 0 1", "up a 2 1",
    "nearest a 2 3", "level a 2", "names a x,y,x,z,x", "all a x", "under a 1 x", "number a", "packed a", "count 3",
    "alike a b", "cut a 1 c", "graft a top 0 b", "graft a 0 0 c", "back a",
]
NO_TEXTS = [None, 0, 1, True, False, [], ["count", "3"], ("count", "3"), {}, b"count 3", 1.0, set(), object()]


class DeskCase(unittest.TestCase):
    def desk_of(self, *rows):
        desk = Desk()
        for row in rows:
            desk.say(row)
        return desk

    def check_says(self, desk, told):
        """Each row with its answer, or with its refusal."""
        for row, answer in told:
            if isinstance(answer, str):
                said = desk.say(row)
                self.assertEqual((row, said), (row, answer))
                self.assertIs(type(said), str)
            else:
                with self.assertRaises(WoodError) as caught:
                    desk.say(row)
                self.assertIs(type(caught.exception), answer, row)


class TestRows(DeskCase):
    def test_wood(self):
        self.check_says(Desk(), [
            ("wood a -", "0"), ("wood a 10", "1"), ("wood abcdefgh 1110010010", "5"), ("row a opened", "10"),
            ("row abcdefgh opened", "1110010010"), ("wood a 1100", "2"), ("row a opened", "1100"),
            ("wood top -", "0"), ("row top opened", "-"), ("wood wood 10", "1"), ("row wood opened", "10"),
        ])
        for elders in (chain(4000), all_tops(4000), mixed_wood(4000)):
            row = plain_row(elders)
            self.check_says(Desk(), [(f"wood a {row}", "4000"), ("row a opened", row)])

    def test_made(self):
        self.check_says(Desk(), [
            ("made a 0 0", "ok"), ("row a opened", "-"), ("made a 3 0", "ok"), ("row a opened", "101010"),
            ("made a 3 4", "ok"), ("row a opened", "111000"), ("made a 3 5", NoNumber), ("row a opened", "111000"),
            ("made b 0 1", NoNumber), ("row b opened", Nobody), ("made a 1 0", "ok"), ("row a opened", "10"),
        ])
        most = many_woods(200) - 1
        self.check_says(Desk(), [
            (f"made a 200 {most}", "ok"), ("row a opened", "1" * 200 + "0" * 200), ("number a", str(most)),
            (f"made a 200 {most + 1}", NoNumber), ("made a 200 0", "ok"), ("row a opened", "10" * 200),
            ("made a 5 " + "9" * 120, NoNumber), ("made a 200 " + "9" * 120, NoNumber),
            ("made a 5 " + "9" * 121, NoLine),
            ("row a opened", "10" * 200),
        ])

    def test_row(self):
        self.check_says(self.desk_of("wood a 1110010010", "wood b -", "wood c 11100010"), [
            ("row a opened", "1110010010"), ("row a levels", "11011001000"), ("row a counts", "11011010000"),
            ("row b opened", "-"), ("row b levels", "0"), ("row b counts", "0"),
            ("row c levels", "110100100"), ("row c counts", "110101000"),
        ])

    def test_questions_of_a_knot(self):
        desk = self.desk_of("wood a 1110010010")
        answers = {"elder": "none 0 1 0 none", "first": "1 2 none none none", "last": "3 2 none none none",
                   "right": "4 3 none none none", "left": "none none none 1 0", "many": "2 1 0 0 0",
                   "beneath": "3 1 0 0 0", "depth": "0 1 2 1 0", "level": "0 2 4 3 1"}
        for asked, told in answers.items():
            self.check_says(desk, [(f"{asked} a {k}", answer) for k, answer in enumerate(told.split(" "))])
            self.check_says(desk, [(f"{asked} a {k}", NoKnot) for k in (5, 6, 4000, 9999)])
            self.check_says(self.desk_of("wood a -"), [(f"{asked} a 0", NoKnot)])

    def test_questions_with_two_numbers(self):
        self.check_says(self.desk_of("wood a 1110010010"), [
            ("nth a 0 0", "1"), ("nth a 0 1", "3"), ("nth a 0 2", "none"), ("nth a 0 9999", "none"),
            ("nth a 2 0", "none"),
            ("nth a 5 0", NoKnot), ("up a 2 0", "2"), ("up a 2 1", "1"), ("up a 2 2", "0"), ("up a 2 3", "none"),
            ("up a 2 9999", "none"), ("up a 5 0", NoKnot), ("nearest a 2 3", "0"), ("nearest a 2 1", "1"),
            ("nearest a 2 2", "2"), ("nearest a 2 4", "none"), ("nearest a 5 0", NoKnot), ("nearest a 0 5", NoKnot),
        ])

    def test_cut(self):
        self.check_says(self.desk_of("wood a 1110010010"), [
            ("cut a 5 b", NoKnot), ("row b opened", Nobody), ("cut a 1 b", "2"), ("row a opened", "110010"),
            ("row b opened", "1100"), ("cut a 0 b", "2"), ("row a opened", "10"), ("row b opened", "1100"),
            ("cut a 0 c", "1"), ("row a opened", "-"), ("row c opened", "10"), ("cut a 0 c", NoKnot),
            ("row c opened", "10"), ("back a", "1"), ("back a", "3"), ("back a", "5"), ("back a", NoDeed),
            ("row a opened", "1110010010"), ("row b opened", "1100"), ("back b", NoDeed), ("back c", NoDeed),
        ])

    def test_cut_where_both_names_are_one(self):
        self.check_says(self.desk_of("wood a 1110010010", "names a v,w,x,y,z"), [
            ("cut a 1 a", "2"), ("row a opened", "1100"), ("back a", NoDeed), ("all a w", Nameless),
            ("cut a 0 a", "2"), ("row a opened", "1100"), ("cut a 2 a", NoKnot), ("row a opened", "1100"),
        ])

    def test_graft(self):
        self.check_says(self.desk_of("wood a 1110010010", "wood b 1010", "wood e -"), [
            ("graft a 0 1 b", "7"), ("row a opened", "11100101010010"), ("row b opened", "1010"),
            ("graft a top 2 b", "9"), ("row a opened", "111001010100101010"), ("graft a top 0 e", "9"),
            ("graft a 9 0 b", NoKnot), ("graft a 9 9 b", NoKnot), ("graft a 0 5 b", NoGraft),
            ("graft a top 5 b", NoGraft),
            ("graft a top 4 b", "11"), ("graft e top 1 b", NoGraft), ("graft e 0 0 b", NoKnot),
            ("graft e top 0 b", "2"),
            ("row e opened", "1010"), ("back a", "9"), ("back a", "9"), ("back a", "7"), ("back a", "5"),
            ("back a", NoDeed),
            ("row a opened", "1110010010"), ("back b", NoDeed), ("back e", "0"), ("row e opened", "-"),
        ])

    def test_graft_of_a_wood_into_itself(self):
        self.check_says(self.desk_of("wood a 110010"), [
            ("graft a 1 0 a", "6"), ("row a opened", "111100100010"), ("graft a top 2 a", "12"),
            ("row a opened", "111100100010" * 2), ("back a", "6"), ("back a", "3"), ("row a opened", "110010"),
        ])

    def test_graft_too_large(self):
        self.check_says(self.desk_of("wood a " + "10" * 2001, "wood b " + "10" * 1999, "wood c 10"), [
            ("graft a top 0 b", "4000"), ("graft a top 0 c", TooLarge), ("graft a 9999 0 c", NoKnot),
            ("graft a 0 1 c", NoGraft), ("back a", "2001"), ("graft a 0 0 a", TooLarge), ("graft a 0 0 c", "2002"),
            ("back a", "2001"), ("back a", NoDeed), ("row b opened", "10" * 1999),
        ])

    def test_back_only_since_the_wood_stands_there(self):
        self.check_says(self.desk_of("wood a 1100", "wood b 10"), [
            ("back a", NoDeed), ("cut a 1 b", "1"), ("back b", NoDeed), ("graft b 0 0 a", "2"), ("wood a 1010", "2"),
            ("back a", NoDeed), ("row a opened", "1010"), ("cut a 0 c", "1"), ("made a 2 1", "ok"), ("back a", NoDeed),
            ("back b", "1"), ("back b", NoDeed), ("graft b 0 0 a", "3"), ("cut a 0 b", "2"), ("back b", NoDeed),
        ])

    def test_names(self):
        self.check_says(self.desk_of("wood a 1110010010", "wood b -", "wood c 10"), [
            ("all a x", Nameless), ("under a 0 x", Nameless), ("under a 9 x", Nameless), ("names a x,y,x,z", NoFit),
            ("names a -", NoFit), ("all a x", Nameless), ("names a x,y,x,z,abcdefgh,q", NoFit),
            ("names a x,y,x,z,abcdefgh", "ok"), ("all a x", "0,2"), ("all a y", "1"), ("all a q", "-"),
            ("all a abcdefgh", "4"), ("under a 0 x", "0,2"), ("under a 1 x", "2"), ("under a 2 x", "2"),
            ("under a 3 x", "-"), ("under a 4 abcdefgh", "4"), ("under a 5 x", NoKnot), ("names a y,y,y,y", NoFit),
            ("all a x", "0,2"), ("names a y,y,y,y,y", "ok"), ("all a y", "0,1,2,3,4"), ("under a 1 y", "1,2"),
            ("names b -", "ok"), ("all b x", "-"), ("under b 0 x", NoKnot), ("names b x", NoFit), ("names c -", NoFit),
            ("all c x", Nameless), ("names c x", "ok"), ("under c 0 x", "0"), ("all a y", "0,1,2,3,4"),
        ])

    def test_what_takes_names_off(self):
        for deed, answer, off in [
            ("cut a 0 b", "1", True), ("graft a top 0 b", "2", True), ("graft a top 0 e", "1", True),
            ("back a", "0", True),
            ("wood a 10", "1", True), ("made a 1 0", "ok", True), ("cut b 0 a", "1", True),
            ("graft b 0 0 a", "2", False),
            ("cut a 1 b", NoKnot, False), ("graft a 1 0 b", NoKnot, False), ("graft a 0 1 b", NoGraft, False),
            ("made a 1 1", NoNumber, False), ("wood a 1", NoLine, False), ("names a x,y", NoFit, False),
            ("cut a 0 bX", NoLine, False), ("graft a top 0 q", Nobody, False), ("number a", "0", False),
        ]:
            desk = self.desk_of("wood a -", "wood b 10", "wood e -", "graft a top 0 b", "names a x")
            self.check_says(desk, [("all a x", "0"), (deed, answer), ("all a x", Nameless if off else "0")])
        desk = self.desk_of("wood a 10", "names a x")
        self.check_says(desk, [("back a", NoDeed), ("all a x", "0")])

    def test_names_stay_off_behind_what_is_taken_back(self):
        self.check_says(self.desk_of("wood a 1100", "names a x,y"), [
            ("cut a 1 b", "1"), ("all a x", Nameless), ("back a", "2"), ("all a x", Nameless), ("names a y,x", "ok"),
            ("all a x", "1"), ("all b x", Nameless),
        ])

    def test_numbers(self):
        self.check_says(self.desk_of("wood a 110100", "wood b -", "wood c 10", "made d 200 77",
                                     "wood e " + "10" * 201), [
            ("number a", "3"), ("packed a", "011"), ("number b", "0"), ("packed b", "-"), ("number c", "0"),
            ("packed c", "-"), ("number d", "77"), ("number e", TooLarge), ("packed e", TooLarge),
            ("count 0", "1"), ("count 1", "1"), ("count 2", "2"), ("count 3", "5"), ("count 10", "16796"),
            ("count 200", str(many_woods(200))),
        ])
        desk = self.desk_of("made d 200 77")
        self.assertEqual(int(desk.say("packed d"), 2), 77)

    def test_alike(self):
        self.check_says(self.desk_of("wood a 1100", "wood b 1010", "wood c 110010", "wood e -"), [
            ("alike a a", "none"), ("alike a b", "1"), ("alike b a", "1"), ("alike a c", "2"), ("alike c a", "2"),
            ("alike a e", "0"), ("alike e a", "0"), ("alike e e", "none"), ("wood b 1100", "2"), ("alike a b", "none"),
        ])

    def test_desks_are_apart(self):
        one = self.desk_of("wood a 10")
        self.check_says(Desk(), [("row a opened", Nobody), ("number a", Nobody)])
        self.check_says(one, [("row a opened", "10")])


class TestRefused(DeskCase):
    def test_each_row_is_understood(self):
        self.assertEqual(len({row.split(" ")[0] for row in ROWS}), 25)
        self.desk_of(*ROWS)

    def check_no_line(self, row):
        """On a desk without woods, and on one with the wood a, of which nothing is changed."""
        self.check_says(Desk(), [(row, NoLine)])
        desk = self.desk_of("wood a 1110010010", "names a x,y,x,z,x")
        self.check_says(desk, [(row, NoLine), ("row a opened", "1110010010"), ("all a x", "0,2,4"), ("back a", NoDeed)])

    def test_no_texts(self):
        for thing in NO_TEXTS:
            with self.assertRaises(NoLine):
                Desk().say(thing)

    def test_blanks_and_line_feeds(self):
        for row in ROWS:
            for wrong in (f" {row}", f"{row} ", f"{row}\n", f"\n{row}", row.replace(" ", "  ", 1),
                          row.replace(" ", "\t", 1),
                          row.replace(" ", "\n", 1), f"{row}\n{row}", f"{row} {row}", row.replace(" ", "", 1),
                          f"{row}\t", f"{row}\r", row[:-1] + " " + row[-1:]):
                self.check_no_line(wrong)

    def test_words_too_many_or_too_few(self):
        for row in ROWS:
            words = row.split(" ")
            for more in ("a", "0", "top", "-", "10", ""):
                self.check_no_line(f"{row} {more}")
            for end in range(len(words)):
                self.check_no_line(" ".join(words[:end]))

    def test_other_first_words(self):
        for first in ("", "Wood", "woods", "WOOD", "elders", "-", "0", "say", "nearest_", "top", "ok", "opened",
                      "none", "a", "__init__", "size", "levels", "counts", "stretch", "get"):
            for rest in ("", " a", " a 0", " a 10", " a 0 0", " a 0 a", " 3"):
                self.check_no_line(first + rest)

    def test_no_names(self):
        for name in ("", "A", "aB", "a1", "1", "abcdefghi", "a-b", "-", "a,b", "a.", "_"):
            for row in ROWS:
                words = row.split(" ")
                if words[0] != "count":
                    self.check_no_line(" ".join([words[0], name] + words[2:]))
            for row in ("cut a 1", "graft a top 0", "alike a", "all a", "under a 0"):
                self.check_no_line(f"{row} {name}")
            if name not in ("-", "a,b"):
                self.check_no_line(f"names a {name}")
        for words in ("x,", ",x", "x,,y", ",", "x, y", "x;y", "x,Y", "x,abcdefghi", "-,x", "x,-", "--", "x,1", "none,",
                      "x,y,z,x,A"):
            self.check_no_line(f"names a {words}")

    def test_no_numbers(self):
        few = ["elder a {}", "many a {}", "level a {}", "nth a {} 0", "nth a 0 {}", "up a {} 0", "up a 0 {}",
               "nearest a {} 0", "nearest a 0 {}", "cut a {} b", "graft a {} 0 a", "graft a top {} a", "under a {} x",
               "count {}", "made b {} 0", "made b 3 {}"]
        few += [f"{asked} a {{}}" for asked in OF_ONE_KNOT]
        for word in ("", "-", "-1", "+1", "00", "01", "007", "0000", "1.0", "1e1", "a", "none", "1a", "0x1", "1_0",
                     "1,2", "Top"):
            for row in few:
                self.check_no_line(row.format(word))
        for row in few:
            if row != "made b 3 {}":
                self.check_no_line(row.format("10000"))
                self.check_no_line(row.format("1" * 120))
            if row not in ("graft a {} 0 a",):
                self.check_no_line(row.format("top"))
        self.check_no_line("made b 3 " + "1" * 121)

    def test_an_n_above_200(self):
        for n in ("201", "202", "999", "1000", "4000", "9999"):
            self.check_no_line(f"count {n}")
            self.check_no_line(f"made b {n} 0")
            self.check_no_line(f"made b {n} {10 ** 119}")

    def test_no_woods(self):
        for word in ("1", "0", "01", "100", "110", "1001", "--", "10-", "-10", "12", "10x", "none", "10,10", "opened",
                     "10" * 4001, "1" * 4001 + "0" * 4001, "1" * 4000):
            self.check_no_line(f"wood b {word}")
            self.check_no_line(f"wood a {word}")

    def test_no_kinds(self):
        for word in ("open", "Opened", "level", "count", "counted", "levelled", "", "-", "a", "row"):
            self.check_no_line(f"row a {word}")

    def test_nobody(self):
        for row in ROWS:
            words = row.split(" ")
            if words[0] not in ("wood", "made", "count"):
                self.check_says(Desk(), [(row, Nobody)])
                wrong = " ".join([words[0], "q"] + words[2:])
                self.check_says(self.desk_of("wood a 10", "names a x"), [(wrong, Nobody), ("all a x", "0")])
        self.check_says(self.desk_of("wood a 10"), [
            ("alike a b", Nobody), ("alike b a", Nobody), ("graft a top 0 b", Nobody), ("graft b top 0 a", Nobody),
            # Nobody is ahead of what the points refuse, and of names that are wanted.
            ("graft a 9 9 b", Nobody), ("graft b 9 9 a", Nobody), ("elder b 9", Nobody), ("under b 9 x", Nobody),
            ("all b x", Nobody), ("cut b 9 a", Nobody), ("names b x,y", Nobody), ("number b", Nobody),
            ("back b", Nobody),
            ("row a opened", "10"), ("cut a 0 b", "1"), ("row b opened", "10"),
        ])

    def test_no_line_is_ahead_of_nobody(self):
        self.check_says(Desk(), [("row b open", NoLine), ("elder b 01", NoLine), ("graft b top 00 a", NoLine),
                                 ("names b X", NoLine), ("alike b A", NoLine), ("all b X", NoLine)])

    def test_a_name_that_is_refused_stands_for_nothing(self):
        desk = self.desk_of("wood a 10")
        self.check_says(desk, [("cut a 1 b", NoKnot), ("made b 1 1", NoNumber), ("wood b 1", NoLine),
                               ("row b opened", Nobody)])


class TestWhole(DeskCase):
    """Many rows of all kinds, right and wrong ones, held against the desk over plain elders."""

    def some_row(self, chance, plain):
        """Rows that are mostly right."""
        name = "abcd"[next(chance) % 4]
        other = "abcde"[next(chance) % 5]
        many = len(plain.elders.get(name, []))
        k = next(chance) % (many + 1)
        i = next(chance) % 4
        words = ",".join(["xyz"[next(chance) % 3] for tag in range(many)]) or "-"
        n = next(chance) % 9
        number = next(chance) % 1500
        wood = plain_row(mixed_wood(next(chance) % 30, next(chance))) or "-"
        rows = [f"wood {name} {wood}", f"made {name} {n} {number}",
                f"row {name} {('opened', 'levels', 'counts')[i % 3]}", f"nth {name} {k} {i}", f"up {name} {k} {i}",
                f"nearest {name} {k} {max(k - 1 - 3 * i, 0)}", f"level {name} {k}", f"number {name}", f"packed {name}",
                f"count {n}", f"alike {name} {other}"]
        rows += [f"{asked} {name} {k}" for asked in OF_ONE_KNOT]
        rows += 2 * [f"cut {name} {k} {other}", f"graft {name} {k} {i % 2} {other}", f"graft {name} top {i} {other}",
                     f"names {name} {words}", f"all {name} x", f"under {name} {k} y", f"back {name}"]
        return rows[next(chance) % len(rows)]

    def wrong_row(self, chance, row):
        """A row of which a sign is another one, is left out, or is put in."""
        place = next(chance) % len(row)
        sign = "01 9aztx-,\n"[next(chance) % 11]
        return (row[:place] + sign + row[place + 1:], row[:place] + row[place + 1:], row[:place] + sign + row[place:])[
            next(chance) % 3]

    def check_both(self, desk, plain, row):
        try:
            answer = plain.say(row)
        except WoodError as refusal:
            answer = type(refusal)
        self.check_says(desk, [(row, answer)])
        return answer

    def test_small_woods(self):
        for seed in range(12):
            desk = Desk()
            plain = PlainDesk()
            chance = states(seed)
            answers = {}
            for number in range(1200):
                row = self.some_row(chance, plain)
                row = self.wrong_row(chance, row) if number % 9 == 8 else row
                answer = self.check_both(desk, plain, row)
                answers[answer if isinstance(answer, type) else row.split(" ")[0]] = True
            for name in plain.elders:
                self.check_both(desk, plain, f"row {name} opened")
        # Behind so many rows all was met.
        self.assertLessEqual({row.split(" ")[0] for row in ROWS}, set(answers))
        self.assertLessEqual({NoLine, Nobody, Nameless, NoKnot, NoGraft, NoDeed, NoNumber}, set(answers))

    def test_large_woods(self):
        desk = Desk()
        plain = PlainDesk()
        for name, elders in (("a", chain(4000)), ("b", all_tops(1500)), ("c", mixed_wood(2500)),
                             ("d", mixed_wood(700, 3))):
            self.check_both(desk, plain, f"wood {name} {plain_row(elders)}")
        chance = states(4)
        for number in range(700):
            row = self.some_row(chance, plain)
            if not row.startswith(("wood", "made")):
                self.check_both(desk, plain, row)
        for name in plain.elders:
            self.check_both(desk, plain, f"row {name} levels")

    def test_a_wood_that_was_grafted_answers_as_one_told_anew(self):
        desk = self.desk_of("wood a " + plain_row(mixed_wood(90)), "wood b " + plain_row(mixed_wood(40, 2)))
        for row in ("cut a 50 c", "graft a 20 0 b", "graft a top 1 c", "cut a 3 d", "back a", "graft b 7 0 a"):
            desk.say(row)
        for name in "abcd":
            desk.say(f"wood e {desk.say(f'row {name} opened')}")
            self.assertEqual(desk.say(f"alike {name} e"), "none")
            for k in range(int(desk.say(f"beneath {name} 0")) + 1):
                for asked in OF_ONE_KNOT + ("level",):
                    self.assertEqual(desk.say(f"{asked} {name} {k}"), desk.say(f"{asked} e {k}"))


if __name__ == "__main__":
    unittest.main()
