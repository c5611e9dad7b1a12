"""Promise 34, and 2 of it: rows of words said to a desk, and its answers."""

import unittest

from farpage.desk import Desk
from farpage.errors import FarError, NoCall, NoEnds, NoName, NoPage, NoSaying
from farpage.house import House
from farpage.pages import show_page
from farpage.stories import stories
from farpage.stream import mark_ends, page_bits
from tests.helper import NO_TEXTS, RefusalCase, drawn_fates, odd_signs, patterned_draw, patterned_page

NAMES = ("ann", "bo", "cy", "di", "eve", "flo")
PAGE = patterned_page(8, 16, 1)
SHOWN = show_page(PAGE)
SMALL = "..##..../.#######"
# Of a call of one page that isn't mended: its ended, or the answer, is lost three times.
UNSURE = " ".join(["come"] * 7 + ["lose"] * 3)
REFUSED = " ".join(["come"] * 6 + ["lose come come come come"] * 3)
LETTERS = {("turn", None): "t", ("lose", None): "l", ("put", "0"): "z", ("put", "1"): "o"}


def desk_of(names=NAMES[:4], kind="plain", room=4):
    desk = Desk()
    for name in names:
        desk.say(f"machine {name} 16 1 2 {kind} {room}")
    return desk


def asked_rows(names=NAMES):
    rows = []
    for name in names:
        rows += [f"had {name}", f"sent {name}"] + [f"hold {name} {other}" for other in names]
    return rows


def all_answers(desk):
    answers = []
    for row in asked_rows():
        try:
            answers.append(desk.say(row))
        except FarError as error:
            answers.append(type(error))
    return answers


def say_fate(fate):
    """A fate as a word of a row."""
    if fate[0] != "spoil":
        return fate[0]
    return "+".join(LETTERS[spoil[0], (*spoil, None)[2]] + str(spoil[1]) for spoil in fate[1])


class DeskCase(RefusalCase):
    def assert_answers(self, desk, *pairs):
        for row, due in pairs:
            told = desk.say(row)
            self.assertIs(type(told), str)
            self.assertEqual(told, due, row)

    def assert_no(self, due, *rows, desk=None):
        """Each row is refused with the one kind, and all answers stay."""
        if desk is None:
            desk = desk_of()
            desk.say(f"keep ann {SHOWN} bo")
            desk.say("call ann bo")
            desk.say(f"keep ann {SMALL} bo cy")
        answers = all_answers(desk)
        for row in rows:
            self.assert_refused(due, desk.say, row)
            self.assertEqual(all_answers(desk), answers, row)
        self.assertEqual(desk.house.print_one("bo"), ("ann", 0))


class TestAnswers(DeskCase):
    def test_machine(self):
        desk = Desk()
        for row in (
            "machine a 8 1 1 plain 1", "machine abcdefgh 64 4 4 mends 4", "machine bo 16 2 3 mends 2",
            "machine cy 9 1 2 plain 3", "machine di 63 2 3 mends 1", "machine machine 8 1 1 mends 1",
            "machine had 8 1 1 plain 1", "machine come 8 4 1 plain 1",
        ):
            self.assert_answers(desk, (row, "ok"))

    def test_settings_and_rooms(self):
        desk = Desk()
        self.assert_answers(desk, ("machine ann 64 4 4 mends 1", "ok"), ("machine bo 20 2 3 mends 1", "ok"))
        self.assert_answers(desk, (f"keep ann {SMALL} bo", "0"), (f"keep ann {SMALL} bo", "1"))
        house = House()
        house.put("ann", (64, 4, 4, True), 1)
        house.put("bo", (20, 2, 3, True), 1)
        for _ in range(2):
            house.keep("ann", tuple(SMALL.split("/")), ("bo",), None)
        self.assert_answers(desk, ("call ann bo", str(len(house.call("ann", "bo", [])))))
        self.assert_answers(desk, ("had bo", "ann/0 ann/1"), ("page bo ann 1", "/".join(house.had("bo")[1][1])))
        self.assert_answers(desk, ("print bo", "ann/1"), ("print bo", "-"))

    def test_keep_and_pass(self):
        desk = desk_of(NAMES)
        self.assert_answers(
            desk, (f"keep ann {SHOWN} bo", "0"), (f"keep ann {SMALL} bo cy di eve", "1"), (f"keep bo {SMALL} ann", "0"),
            (f"pass ann bo {SHOWN} cy", "2"), (f"pass ann bo {SHOWN} cy di eve flo", "3"),
            ("sent ann", "bo/0=waiting bo/1=waiting cy/1=waiting di/1=waiting eve/1=waiting bo/2=waiting bo/3=waiting"),
            ("sent bo", "ann/0=waiting"), ("sent cy", "-"),
        )

    def test_call_and_fetch(self):
        desk = desk_of()
        self.assert_answers(
            desk, (f"keep ann {SHOWN} bo cy di", "0"), ("call ann bo", "10"), ("fetch cy ann", "11"),
            ("fetch di ann lose lose lose", "3"), ("fetch di ann cut lose whole lose", "14"),
            ("had bo", "ann/0"), ("had cy", "ann/0"), ("had di", "ann/0"),
            ("sent ann", "bo/0=good cy/0=good di/0=good"),
        )

    def test_each_fate(self):
        desk = desk_of()
        self.assert_answers(
            desk, (f"keep ann {SHOWN} bo", "0"), ("call ann bo lose lose lose", "4"), ("sent ann", "bo/0=unsent"),
            ("call ann bo gone", "2"), ("call ann bo come down", "2"), ("call ann bo cut gone whole", "2"),
            ("call ann bo come come come come t5+l9+o0 down", "6"), ("sent ann", "bo/0=unsent"),
            (f"call ann bo {UNSURE}", "11"), ("sent ann", "bo/0=unsure"), ("call ann bo gone", "2"),
            ("sent ann", "bo/0=unsure"), ("call ann bo z0+l0", "11"), ("sent ann", "bo/0=good"), ("had bo", "ann/0"),
            (f"keep ann {SHOWN} bo", "1"), (f"call ann bo {REFUSED}", "20"), ("sent ann", "bo/0=good bo/1=refused"),
        )

    def test_each_spoil_of_a_trial(self):
        clear = "t5+t5 l5+z5 l0+z31 l31+z31 o5+l5 o5+t5+l5 z0+l32 t32 l32 z33 o33 o32+l32".split(" ")
        fail = "t5 t0 t31 l5 l31 z5 z32 o5 o32 l5+o5 t5+l6 z5+t5 o5+l6 o32+l31".split(" ")
        for spoils, many in [(spoils, "10") for spoils in clear] + [(spoils, "14") for spoils in fail]:
            desk = desk_of()
            desk.say(f"keep ann {SHOWN} bo")
            self.assert_answers(desk, (f"call ann bo come come come come {spoils}", many))

    def test_guessed_rows(self):
        desk = desk_of()
        ends = mark_ends(page_bits(PAGE, 1, 32))
        desk.say(f"keep ann {SHOWN} bo cy")
        desk.say(f"keep ann {SMALL} bo")
        desk.say(f"keep ann {SHOWN} bo")
        desk.say("call ann bo " + "come " * 6 + f"t{ends[1]}+t{ends[3]}")
        self.assert_answers(
            desk, ("had bo", "ann/0:1,3 ann/1 ann/2"), ("sent ann", "bo/0=rough cy/0=waiting bo/1=good bo/2=good"),
        )
        page = (PAGE[0], PAGE[0], PAGE[2], PAGE[2], *PAGE[4:])
        self.assert_answers(desk, ("page bo ann 0", show_page(page)), ("page bo ann 2", SHOWN))
        desk.say("call ann cy " + "come " * 6 + f"t{ends[0]}")
        self.assert_answers(desk, ("had cy", "ann/0:0"), ("print cy", "ann/0"), ("print cy", "-"))

    def test_page(self):
        desk = desk_of()
        desk.say("machine wide 64 1 2 mends 1")
        desk.say("machine far 64 1 2 mends 1")
        rows = f"{SMALL} {SHOWN}".split(" ")
        for number, shown in enumerate(rows):
            desk.say(f"keep wide {shown} bo far")
            desk.say("call wide bo")
            due = "/".join(row.ljust(16, ".") for row in shown.split("/"))
            self.assert_answers(desk, (f"page bo wide {number}", due))
        desk.say("call wide far")
        self.assert_answers(desk, ("page far wide 1", "/".join(row.ljust(64, ".") for row in SHOWN.split("/"))))

    def test_hold(self):
        desk = desk_of()
        self.assert_answers(desk, ("hold ann bo", "-"), ("hold ann ann", "-"))
        for _ in range(3):
            desk.say(f"keep ann {SHOWN} bo")
        self.assert_answers(desk, ("hold ann bo", "0=same 1=same 2=same"))
        desk.say("call ann bo" + " come" * 10 + " lose" * 3)
        self.assert_answers(desk, ("hold ann bo", "0=same 1=open 2=same"), ("hold bo ann", "-"), ("hold ann ann", "-"))
        desk.say("call ann bo cut")
        self.assert_answers(desk, ("hold ann bo", "0=same 1=open 2=same"))
        self.assert_answers(desk, ("sent ann", "bo/0=good bo/1=unsure bo/2=unsent"))
        desk.say("call ann bo")
        self.assert_answers(desk, ("hold ann bo", "0=same 1=same 2=same"), ("hold bo bo", "-"))

    def test_passing_on(self):
        desk = desk_of()
        self.assert_answers(
            desk, (f"pass ann bo {SHOWN} di cy", "0"), ("call ann bo", "10"), ("sent bo", "di/0=waiting cy/0=waiting"),
            ("fetch cy bo", "11"), ("had cy", "bo/0"), ("page cy bo 0", SHOWN), ("hold bo cy", "0=same"),
            ("hold bo di", "0=same"), ("sent bo", "di/0=waiting cy/0=good"),
        )

    def test_nothing_yet(self):
        desk = desk_of()
        self.assert_answers(desk, ("had ann", "-"), ("sent ann", "-"), ("hold ann bo", "-"), ("print ann", "-"))

    def test_sixty_fates_of_forty_spoils(self):
        desk = desk_of()
        desk.say(f"keep ann {SHOWN} bo")
        spoils = "+".join(["t12000", "l12000", "z12000", "o0"] * 10)
        told = desk.say("call ann bo come " + " ".join([spoils] * 59))
        house = House()
        for name in ("ann", "bo"):
            house.put(name, (16, 1, 2, False), 4)
        house.keep("ann", PAGE, ("bo",), None)
        fates = [("turn", 12000), ("lose", 12000), ("put", 12000, "0"), ("put", 0, "1")] * 10
        self.assertEqual(told, str(len(house.call("ann", "bo", [("come",)] + [("spoil", fates)] * 59))))

    def test_two_desks_know_nothing_of_one_another(self):
        one, other = desk_of(), Desk()
        one.say(f"keep ann {SHOWN} bo")
        self.assert_refused(NoName, other.say, "sent ann")
        self.assert_answers(other, ("machine ann 8 1 1 plain 1", "ok"), ("sent ann", "-"))


class TestNoSaying(DeskCase):
    def test_what_is_no_text(self):
        self.assert_no(NoSaying, *NO_TEXTS, ["had ann"], ("had", "ann"), ["had", "ann"], ("had ann",))

    def test_blanks(self):
        rows = [
            "", " ", "  ", " had ann", "had ann ", "had  ann", "had", "had ", " had", "sent  ann", "print ann ",
            f"keep ann  {SHOWN} bo", f"keep ann {SHOWN}  bo", f"keep ann {SHOWN} bo ", "call ann bo ",
            "call  ann bo", "call ann bo come  come", "machine eve 16 1 2 plain 4 ", " machine eve 16 1 2 plain 4",
            "hold ann  bo", "keep ann  bo", "pass ann bo  cy",
        ]
        self.assert_no(NoSaying, *rows)

    def test_other_words(self):
        rows = ["hello", "Had ann", "HAD ann", "has ann", "book ann", "held ann", "put eve 16 1 2 plain 4", "ann", "-",
                "had/ann", "hadann", "lose", "come", "end", "machines", "pages bo ann 0", "printer bo", "h ann"]
        self.assert_no(NoSaying, *rows)

    def test_numbers_of_words(self):
        rows = [
            "machine", "machine eve", "machine eve 16", "machine eve 16 1 2 plain", "machine eve 16 1 2 plain 4 4",
            "machine eve 16 1 2 plain 4 x", "keep", "keep ann", f"keep ann {SHOWN}", "pass", "pass ann", "pass ann bo",
            f"pass ann bo {SHOWN}", "call", "call ann", "fetch", "fetch bo", "had", "had ann bo", "page", "page bo",
            "page bo ann", "page bo ann 0 0", "sent", "sent ann bo", "hold", "hold ann", "hold ann bo cy", "print",
            "print bo bo",
        ]
        self.assert_no(NoSaying, *rows)

    def test_names(self):
        wrongs = ["Ann", "anN", "abcdefghi", "a1", "10", "a_b", "a-b", "ann/0", "ann,bo", "ann="]
        wrongs += odd_signs("abcdefghijklmnopqrstuvwxyz ")
        for wrong in wrongs:
            rows = [
                f"machine {wrong} 16 1 2 plain 4", f"keep {wrong} {SHOWN} bo", f"keep ann {SHOWN} {wrong}",
                f"keep ann {SHOWN} bo {wrong}", f"pass {wrong} bo {SHOWN} cy", f"pass ann {wrong} {SHOWN} cy",
                f"pass ann bo {SHOWN} {wrong}", f"call {wrong} bo", f"call ann {wrong}", f"fetch {wrong} ann",
                f"fetch bo {wrong}", f"had {wrong}", f"page {wrong} ann 0", f"page bo {wrong} 0", f"sent {wrong}",
                f"hold {wrong} bo", f"hold ann {wrong}", f"print {wrong}",
            ]
            desk = desk_of()
            for row in rows:
                self.assert_refused(NoSaying, desk.say, row)
        self.assert_no(NoSaying, *rows)

    def test_numbers(self):
        wrongs = [
            "00", "01", "02", "04", "008", "016", "+8", "+1", "-8", "-1", "8.0", "8,", "x", "eight", "0x8", "1e1", "8a",
            "a8", "_8", "1_0", "000008", "100000", "123456", "999999999", "#", "-", ".",
        ]
        places = {
            0: ["0", "7", "65", "640", "12000", "99999"], 1: ["0", "3", "5", "8", "11"], 2: ["0", "5", "11", "40"],
            4: ["0", "5", "11"],
        }
        rows = []
        for place, more in places.items():
            for wrong in wrongs + more:
                words = ["16", "1", "2", "plain", "4"]
                words[place] = wrong
                rows.append("machine eve " + " ".join(words))
        self.assert_no(NoSaying, *rows)
        wrongs += ["1000", "1001", "9999", "12000", "99999"]
        self.assert_no(NoSaying, *[f"page bo ann {wrong}" for wrong in wrongs])

    def test_kinds(self):
        wrongs = ("Mends", "mend", "plains", "true", "True", "0", "1", "-", "x")
        self.assert_no(NoSaying, *[f"machine eve 16 1 2 {wrong} 4" for wrong in wrongs])

    def test_fates(self):
        wrongs = [
            "Come", "comes", "lost", "spoil", "up", "t", "t-1", "t+5", "+", "t5+", "+t5", "t5++l9", "t05", "t00", "T5",
            "x5", "p5", "5", "5t", "t5,l9", "t5+come", "come+lose", "lose+t5", "come+", "t12001", "t99999", "t100000",
            "l12001", "z12001", "o12001", "t5-l9", "tt5", "t5l9", "t 5", "-", ".", "t1x", "t+", "(come)", "down+gone",
        ]
        for wrong in wrongs:
            rows = [
                f"call ann bo {wrong}", f"call ann bo come {wrong}", f"call ann bo {wrong} come",
                f"fetch bo ann {wrong}",
            ]
            desk = desk_of()
            desk.say(f"keep ann {SHOWN} bo")
            for row in rows:
                self.assert_refused(NoSaying, desk.say, row)
            self.assertEqual(desk.say("sent ann"), "bo/0=waiting")
        self.assert_no(NoSaying, *rows)

    def test_too_many_fates_and_spoils(self):
        self.assert_no(
            NoSaying, "call ann bo" + " come" * 61, "fetch bo ann" + " t5" * 61, "call ann bo" + " come" * 100,
            "call ann bo " + "+".join(["t5"] * 41), "fetch bo ann come " + "+".join(["t5"] * 60),
        )

    def test_it_is_made_ahead_of_all_others(self):
        self.assert_no(
            NoSaying, "machine ann 16 1 2 plain 5", "keep Ann x bo", "keep ann x Bo", "keep eve x B0", "keep ann x",
            "pass ann B x cy", "pass ann bo x", "pass ann bo x cy C", "call eve flo x", "call ann ann t",
            "fetch eve eve come ", "page eve ann 1000", "keep ann x bo cy di eve Flo", f"keep ann {SHOWN} bo bo Bo",
            "hold eve Flo",
        )


class TestOtherRefusals(DeskCase):
    def test_no_page(self):
        wrongs = [
            "x", ".", "#######", "." * 65, "/", "......../", "/........", "......../.........", "........//........",
            "/".join(["........"] * 25), "...-....", "ann", "0",
        ]
        for wrong in wrongs:
            self.assert_no(
                NoPage, f"keep ann {wrong} bo", f"pass ann bo {wrong} cy", f"keep eve {wrong} bo",
                f"keep ann {wrong} eve", f"keep ann {wrong} ann", f"keep ann {wrong} bo bo",
                f"pass ann eve {wrong} cy", f"pass ann ann {wrong} ann", f"keep ann {wrong} bo cy di eve flo",
            )

    def test_no_name(self):
        self.assert_no(
            NoName, "machine ann 16 1 2 plain 4", "machine bo 8 4 4 mends 1", f"keep eve {SHOWN} bo",
            f"keep ann {SHOWN} eve", f"keep ann {SHOWN} bo eve", f"pass eve bo {SHOWN} cy", f"pass ann eve {SHOWN} cy",
            f"pass ann bo {SHOWN} eve", "call eve bo", "call ann eve", "call eve eve", "fetch eve ann", "fetch bo eve",
            "had eve", "sent eve", "print eve", "hold eve ann", "hold ann eve", "hold eve eve", "page eve ann 0",
            "page bo eve 0", "page bo ann 1", "page bo ann 999", "page ann bo 0", "page bo bo 0", "page cy ann 0",
        )

    def test_no_name_is_made_ahead_of_no_ends(self):
        self.assert_no(
            NoName, f"keep ann {SHOWN} bo bo eve", f"keep ann {SHOWN} ann eve", f"keep eve {SHOWN} eve",
            f"keep ann {SHOWN} ann bo cy di eve", f"pass ann ann {SHOWN} eve", f"pass ann bo {SHOWN} bo eve",
        )

    def test_no_ends(self):
        desk = desk_of(NAMES)
        desk.say(f"keep ann {SHOWN} bo")
        desk.say("call ann bo")
        self.assert_no(
            NoEnds, f"keep ann {SHOWN} bo cy di eve flo", f"keep ann {SHOWN} bo bo", f"keep ann {SHOWN} ann",
            f"keep ann {SHOWN} bo ann", f"pass ann ann {SHOWN} bo", f"pass ann bo {SHOWN} bo",
            f"pass ann bo {SHOWN} cy bo",
            f"pass ann bo {SHOWN} ann", f"pass ann bo {SHOWN} cy cy", f"pass ann bo {SHOWN} cy di eve flo cy",
            f"keep ann {SHOWN} bo cy di eve flo bo cy di", desk=desk,
        )
        self.assert_answers(desk, (f"keep ann {SHOWN} bo", "1"))

    def test_no_call(self):
        self.assert_no(
            NoCall, "call ann ann", "call bo ann", "call ann di", "call bo bo come lose", "fetch ann bo",
            "fetch ann ann", "fetch di ann", "fetch di ann t5",
        )

    def test_a_refused_machine_is_not_there(self):
        desk = Desk()
        self.assert_refused(NoSaying, desk.say, "machine ann 16 1 2 plain 5")
        self.assert_refused(NoName, desk.say, "had ann")
        self.assert_answers(desk, ("machine ann 16 1 2 plain 4", "ok"))


class TestDeskAndHouse(DeskCase):
    """A desk and a house are told the same drawn things."""

    def drawn(self, draw):
        """A row, and what of a house it asks."""
        one, other, third = [NAMES[draw(4)] for _ in range(3)]
        page = patterned_page(1 + draw(3), 8 + draw(20), draw(50))
        ends = tuple(NAMES[draw(5 if draw(4) == 0 else 4)] for _ in range(1 + draw(2)))
        fates = drawn_fates(draw, draw(30), 1 + draw(6))
        said = "".join(" " + say_fate(fate) for fate in fates)
        shown = show_page(page)
        return [
            (f"keep {one} {shown} {' '.join(ends)}", lambda house: str(house.keep(one, page, ends, None))),
            (f"pass {one} {other} {shown} {' '.join(ends)}", lambda house: str(house.keep(one, page, ends, other))),
            (f"call {one} {other}{said}", lambda house: str(len(house.call(one, other, fates)))),
            (f"call {one} {other}{said}", lambda house: str(len(house.call(one, other, fates)))),
            (f"fetch {one} {other}{said}", lambda house: str(len(house.fetch(one, other, fates)))),
            (f"print {one}", lambda house: "/".join(map(str, house.print_one(one) or ("-",)))),
        ][draw(6)]

    def answer(self, function, *arguments):
        try:
            return function(*arguments)
        except FarError as error:
            return type(error)

    def check_told(self, desk, house):
        for name in NAMES[:4]:
            keys = [f"{key[0]}/{key[1]}" + ":" * bool(guessed) + ",".join(map(str, guessed))
                    for key, page, guessed, ends in house.had(name)]
            sent = [f"{to}/{number}={word}" for to, number, word in house.sent(name)]
            self.assert_answers(desk, (f"had {name}", " ".join(keys) or "-"), (f"sent {name}", " ".join(sent) or "-"))
            for key, page, guessed, ends in house.had(name):
                self.assert_answers(desk, (f"page {name} {key[0]} {key[1]}", show_page(page)))
            for other in NAMES[:4]:
                told = stories(name, other, house.book(name), house.book(other))
                row = " ".join(f"{number}={verdict}" for number, word, verdict in told)
                self.assert_answers(desk, (f"hold {name} {other}", row or "-"))

    def test_drawn(self):
        answers = set()
        for seed in range(60):
            draw = patterned_draw(seed)
            desk, house = Desk(), House()
            for name in NAMES[:4]:
                setting = ((8, 16, 24)[draw(3)], (1, 2, 4)[draw(3)], 1 + draw(4), draw(2) == 0)
                room = 1 + draw(4)
                house.put(name, setting, room)
                kind = "mends" if setting[3] else "plain"
                desk.say(f"machine {name} {setting[0]} {setting[1]} {setting[2]} {kind} {room}")
            for _ in range(40):
                row, deed = self.drawn(draw)
                told = self.answer(desk.say, row)
                self.assertEqual(told, self.answer(deed, house), row)
                answers.add(told if isinstance(told, type) else "told")
            self.check_told(desk, house)
        self.assertEqual(answers, {"told", NoName, NoEnds, NoCall})


if __name__ == "__main__":
    unittest.main()
