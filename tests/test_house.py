"""Promises 30 to 32, and 2 and 3 of them: machines that keep pages, call, fetch and pass on."""

import unittest
from unittest import mock

from farpage.calls import run_call, run_fetch
from farpage.errors import NoCall, NoEnds, NoName
from farpage.house import House
from farpage.pages import fit_page
from farpage.receiver import Receiver
from farpage.sender import Sender
from farpage.stream import mark_ends, page_bits
from tests.helper import RefusalCase, patterned_page

PLAIN = (16, 1, 2, False)
MENDS = (16, 2, 2, True)
NAMES = ("ann", "bo", "cy", "di", "eve", "flo", "gus", "hal")
PAGE = patterned_page(4, 16, 1)
OTHER = patterned_page(2, 24, 2)
COME, LOSE, CUT, WHOLE, DOWN, GONE = [(fate,) for fate in ("come", "lose", "cut", "whole", "down", "gone")]
# Of a call of one page that isn't mended: what becomes of it by these fates.
UNSURE_HAD = [COME] * 8 + [LOSE, COME] * 3
UNSURE = [COME] * 7 + [LOSE] * 3
UNSENT = [LOSE] * 3
REFUSED = [COME] * 6 + [LOSE, COME, COME, COME, COME] * 3
ROUGH = [COME] * 6 + [("spoil", [("turn", mark_ends(page_bits(PAGE, 1, 32))[2])])]
GUESSED = PAGE[:2] + PAGE[1:2] + PAGE[3:]


def house_of(names=NAMES[:4], setting=PLAIN, room=4):
    house = House()
    for name in names:
        house.put(name, setting, room)
    return house


def all_of(house, names=NAMES):
    """All that a house tells of its machines, copied, so that a list of the house's own would be seen to change."""
    told = []
    for name in names:
        try:
            told.append((list(house.had(name)), list(house.sent(name)), list(house.book(name))))
        except NoName:
            told.append(None)
    return told


class HouseCase(RefusalCase):
    def assert_changes_nothing(self, house, due, function, *arguments):
        told = all_of(house)
        self.assert_refused(due, function, *arguments)
        self.assertEqual(all_of(house), told)


class TestPut(HouseCase):
    def test_eight_machines(self):
        house = house_of(NAMES)
        for name in NAMES:
            self.assertEqual((house.had(name), house.sent(name), house.book(name)), ([], [], []))
            self.assertIsNone(house.print_one(name))

    def test_told_is_nothing(self):
        self.assertIsNone(House().put("ann", PLAIN, 1))

    def test_put_twice(self):
        house = house_of()
        house.keep("ann", PAGE, ("bo",), None)
        for setting, room in ((PLAIN, 4), (MENDS, 1)):
            self.assert_changes_nothing(house, NoName, house.put, "ann", setting, room)
        self.assertEqual(house.sent("ann"), [("bo", 0, "waiting")])
        self.assertEqual(house.call("ann", "bo", [])[1][1], ("can", PLAIN))

    def test_settings_and_rooms_are_each_machines_own(self):
        house = House()
        house.put("ann", (64, 4, 4, True), 1)
        house.put("bo", (20, 2, 3, True), 1)
        house.put("cy", (8, 1, 1, False), 2)
        for _ in range(2):
            house.keep("ann", PAGE, ("bo", "cy"), None)
        told = house.call("ann", "bo", [])
        self.assertEqual(told[1][1], ("can", (20, 2, 3, True)))
        self.assertEqual(told[2][1], ("set", (20, 2, 3, True)))
        self.assertIn((1, ("busy", ("ann", 1)), ("busy", ("ann", 1))), told)
        told = house.call("ann", "cy", [])
        self.assertEqual(told[2][1], ("set", (8, 1, 1, False)))
        self.assertNotIn((1, ("busy", ("ann", 1)), ("busy", ("ann", 1))), told)

    def test_two_houses_know_nothing_of_one_another(self):
        one, other = house_of(), House()
        one.keep("ann", PAGE, ("bo",), None)
        self.assert_refused(NoName, other.sent, "ann")
        other.put("ann", PLAIN, 1)
        self.assertEqual(other.sent("ann"), [])


class TestKeep(HouseCase):
    def test_straight(self):
        house = house_of(NAMES)
        self.assertEqual(house.keep("ann", PAGE, ("bo",), None), 0)
        self.assertEqual(house.keep("ann", PAGE, ("hal", "cy", "bo", "eve"), None), 1)
        self.assertEqual(house.keep("bo", OTHER, ("ann",), None), 0)
        due = [("bo", 0), ("hal", 1), ("cy", 1), ("bo", 1), ("eve", 1)]
        self.assertEqual(house.sent("ann"), [(to, number, "waiting") for to, number in due])
        self.assertEqual(house.book("ann"), [("kept", number, to, ()) for to, number in due])
        self.assertEqual(house.sent("bo"), [("ann", 0, "waiting")])

    def test_by_another_one(self):
        house = house_of(NAMES)
        self.assertEqual(house.keep("ann", PAGE, ("cy",), "bo"), 0)
        self.assertEqual(house.keep("ann", PAGE, ("cy", "di", "hal", "eve"), "gus"), 1)
        self.assertEqual(house.keep("ann", PAGE, ("bo",), None), 2)
        self.assertEqual(house.sent("ann"), [("bo", 0, "waiting"), ("gus", 1, "waiting"), ("bo", 2, "waiting")])
        self.assertEqual(house.book("ann"), [
            ("kept", 0, "bo", ("cy",)), ("kept", 1, "gus", ("cy", "di", "hal", "eve")), ("kept", 2, "bo", ()),
        ])

    def test_numbers_from_0_and_each_machine_its_own(self):
        house = house_of(NAMES)
        for number in range(30):
            for name, to in zip(NAMES, NAMES[1:] + NAMES[:1]):
                self.assertEqual(house.keep(name, PAGE, (to,), None), number)

    def test_no_name(self):
        house = house_of()
        house.keep("ann", PAGE, ("bo",), None)
        for name, ends, by in (
            ("eve", ("bo",), None), ("eve", ("bo",), "cy"), ("ann", ("bo",), "eve"), ("ann", ("eve",), None),
            ("ann", ("bo", "eve"), None), ("ann", ("bo", "cy", "di", "eve"), None), ("ann", ("eve",), "bo"),
        ):
            self.assert_changes_nothing(house, NoName, house.keep, name, PAGE, ends, by)
        self.assertEqual(house.keep("ann", PAGE, ("bo",), None), 1)

    def test_no_name_is_made_ahead_of_no_ends(self):
        house = house_of()
        for name, ends, by in (
            ("eve", (), None), ("eve", ("eve",), None), ("eve", ("bo",), "eve"), ("ann", (), "eve"),
            ("ann", ("ann", "eve"), None), ("ann", ("bo", "bo", "eve"), None), ("ann", ("eve", "eve"), None),
            ("ann", ("ann", "bo", "cy", "di", "eve"), None), ("ann", ("eve",), "ann"), ("ann", ("bo", "eve"), "bo"),
        ):
            self.assert_changes_nothing(house, NoName, house.keep, name, PAGE, ends, by)

    def test_no_ends(self):
        house = house_of(NAMES)
        house.keep("ann", PAGE, ("bo",), None)
        for ends, by in (
            ((), None), ((), "bo"), (("bo", "cy", "di", "eve", "flo"), None), (("cy", "di", "eve", "flo", "gus"), "bo"),
            (("bo", "bo"), None), (("bo", "cy", "bo"), None), (("cy", "cy"), "bo"), (("ann",), None),
            (("bo", "ann"), None), (("ann",), "bo"), (("bo",), "ann"), (("ann",), "ann"), (("bo",), "bo"),
            (("cy", "bo"), "bo"), (("cy", "di", "eve", "bo"), "bo"),
        ):
            self.assert_changes_nothing(house, NoEnds, house.keep, "ann", PAGE, ends, by)
        self.assertEqual(house.keep("ann", PAGE, ("bo",), None), 1)


class TestCall(HouseCase):
    def test_the_first_four_by_number_rising(self):
        house = house_of(NAMES)
        for number in range(11):
            house.keep("ann", PAGE, (("bo", "cy") if number % 2 == 0 else ("cy",)), None)
        for numbers in ([0, 2, 4, 6], [8, 10]):
            told = house.call("ann", "bo", [])
            self.assertEqual([word[1] for who, word, heard in told if word[0] == "page"],
                             [("ann", number) for number in numbers])
        self.assert_changes_nothing(house, NoCall, house.call, "ann", "bo", [])
        for numbers in ([0, 1, 2, 3], [4, 5, 6, 7], [8, 9, 10]):
            told = house.call("ann", "cy", [])
            self.assertEqual([word[1][1] for who, word, heard in told if word[0] == "page"], numbers)
        self.assert_changes_nothing(house, NoCall, house.call, "ann", "cy", [])

    def test_a_call_is_that_of_a_sender_and_a_receiver(self):
        for setting in (PLAIN, MENDS):
            for fates in ([], UNSURE, ROUGH, REFUSED, [LOSE, COME, DOWN]):
                house = house_of(NAMES, setting)
                house.keep("ann", PAGE, ("bo", "cy"), None)
                house.keep("ann", OTHER, ("cy",), "bo")
                sender = Sender("ann", setting, [(0, PAGE, ()), (1, OTHER, ("cy",))])
                receiver = Receiver(setting, 4)
                handed = list(fates)
                self.assertEqual(house.call("ann", "bo", handed), run_call(sender, receiver, fates))
                self.assertEqual(handed, fates)
                self.assertEqual(house.had("bo"), receiver.had())
                told = [(number, word) for to, number, word in house.sent("ann") if to == "bo"]
                self.assertEqual(told, sender.outcomes())

    def test_refusals(self):
        house = house_of()
        house.keep("ann", PAGE, ("bo",), None)
        house.keep("ann", PAGE, ("cy",), "di")
        for one, other in (("eve", "ann"), ("ann", "eve"), ("eve", "eve"), ("eve", "flo")):
            self.assert_changes_nothing(house, NoName, house.call, one, other, [])
            self.assert_changes_nothing(house, NoName, house.fetch, one, other, [])
        for one, other in (("ann", "ann"), ("bo", "bo"), ("bo", "ann"), ("ann", "cy"), ("cy", "di"), ("di", "cy")):
            self.assert_changes_nothing(house, NoCall, house.call, one, other, [])
            self.assert_changes_nothing(house, NoCall, house.fetch, other, one, [])

    def test_good_rough_and_refused_pages_are_due_no_more(self):
        for fates, word, had in (([], "good", PAGE), (ROUGH, "rough", GUESSED), (REFUSED, "refused", None)):
            house = house_of()
            house.keep("ann", PAGE, ("bo",), None)
            house.call("ann", "bo", fates)
            self.assertEqual(house.sent("ann"), [("bo", 0, word)])
            self.assertEqual([row[1] for row in house.had("bo")], [had] if had else [])
            self.assert_changes_nothing(house, NoCall, house.call, "ann", "bo", [])

    def test_unsure_and_unsent_pages_are_due_still(self):
        for fates, word in ((UNSURE, "unsure"), (UNSURE_HAD, "unsure"), (UNSENT, "unsent")):
            for behind, due in (([], "good"), (REFUSED, "refused"), (ROUGH, "rough")):
                house = house_of()
                house.keep("ann", PAGE, ("bo",), None)
                house.call("ann", "bo", fates)
                self.assertEqual(house.sent("ann"), [("bo", 0, word)])
                house.call("ann", "bo", behind)
                if fates == UNSURE_HAD:
                    due = "good"
                self.assertEqual(house.sent("ann"), [("bo", 0, due)])
                self.assertEqual(len(house.had("bo")), 0 if due == "refused" else 1)
                self.assert_changes_nothing(house, NoCall, house.call, "ann", "bo", [])

    def test_unsure_stays_unsure(self):
        house = house_of()
        house.keep("ann", PAGE, ("bo",), None)
        words = []
        for fates in (UNSENT, UNSURE, UNSENT, UNSENT, UNSURE, UNSENT):
            house.call("ann", "bo", fates)
            words.append(house.sent("ann")[0][2])
        self.assertEqual(words, ["unsent"] + ["unsure"] * 5)
        told = [row[3] for row in house.book("ann") if row[0] == "told"]
        self.assertEqual(told, ["unsent", "unsure", "unsent", "unsent", "unsure", "unsent"])
        house.call("ann", "bo", [])
        self.assertEqual(house.sent("ann"), [("bo", 0, "good")])

    def test_a_page_called_for_again_behind_unsure_is_had_once(self):
        house = house_of(NAMES, PLAIN, 1)
        house.keep("ann", PAGE, ("bo",), None)
        for fates in (UNSURE_HAD, UNSENT, UNSURE_HAD, UNSURE, []):
            house.call("ann", "bo", fates)
        self.assertEqual(house.had("bo"), [(("ann", 0), PAGE, (), ())])
        self.assertEqual(house.book("bo"), [("had", ("ann", 0), ())])
        self.assertEqual(house.print_one("bo"), ("ann", 0))
        self.assertIsNone(house.print_one("bo"))

    def test_a_page_with_many_ends_is_due_to_each_by_itself(self):
        house = house_of()
        house.keep("ann", PAGE, ("di", "bo", "cy"), None)
        house.call("ann", "bo", UNSURE)
        house.call("ann", "cy", [])
        self.assertEqual(house.sent("ann"), [("di", 0, "waiting"), ("bo", 0, "unsure"), ("cy", 0, "good")])
        house.call("ann", "di", REFUSED)
        house.call("ann", "bo", [])
        self.assertEqual(house.sent("ann"), [("di", 0, "refused"), ("bo", 0, "good"), ("cy", 0, "good")])

    def test_of_one_call_some_come_and_others_do_not(self):
        house = house_of()
        for _ in range(5):
            house.keep("ann", PAGE, ("bo",), None)
        house.call("ann", "bo", [COME] * 12 + [CUT])
        words = ["good", "good", "unsure", "unsent", "waiting"]
        self.assertEqual([row[2] for row in house.sent("ann")], words)
        told = house.call("ann", "bo", [])
        self.assertEqual([word[1][1] for who, word, heard in told if word[0] == "page"], [2, 3, 4])

    def test_a_machine_keeps_what_it_had_through_power(self):
        house = house_of()
        house.keep("ann", PAGE, ("bo",), None)
        house.keep("cy", PAGE, ("bo",), None)
        house.call("ann", "bo", [])
        house.call("cy", "bo", [COME] * 4 + [DOWN])
        self.assertEqual(house.had("bo"), [(("ann", 0), PAGE, (), ())])
        self.assertEqual(house.sent("cy"), [("bo", 0, "unsent")])


class TestFetch(HouseCase):
    def test_the_others_pages_are_sent(self):
        house = house_of(NAMES, PLAIN)
        house.keep("ann", PAGE, ("bo",), None)
        told = house.fetch("bo", "ann", [LOSE])
        sender, receiver = Sender("ann", PLAIN, [(0, PAGE, ())]), Receiver(PLAIN, 4)
        self.assertEqual(told, run_fetch("bo", sender, receiver, [LOSE]))
        self.assertEqual(told[:3], [
            (1, ("fetch", "bo"), None), (1, ("fetch", "bo"), ("fetch", "bo")), (0, ("call",), ("call",)),
        ])
        self.assertEqual(house.sent("ann"), [("bo", 0, "good")])
        self.assertEqual(house.book("ann"), [("kept", 0, "bo", ()), ("told", 0, "bo", "good")])
        self.assertEqual(house.book("bo"), [("had", ("ann", 0), ())])

    def test_the_first_four(self):
        house = house_of()
        for _ in range(6):
            house.keep("ann", PAGE, ("bo",), None)
        house.fetch("bo", "ann", [])
        self.assertEqual([row[2] for row in house.sent("ann")], ["good"] * 4 + ["waiting"] * 2)
        house.fetch("bo", "ann", [])
        self.assert_changes_nothing(house, NoCall, house.fetch, "bo", "ann", [])

    def test_one_that_does_not_come(self):
        for fates in ([LOSE] * 3, [CUT], [DOWN] * 3, [LOSE, LOSE, DOWN], [CUT, DOWN, GONE]):
            house = house_of()
            house.keep("ann", PAGE, ("bo",), None)
            told = all_of(house)
            self.assertEqual(house.fetch("bo", "ann", fates), [(1, ("fetch", "bo"), None)] * 3)
            self.assertEqual(all_of(house), told)
            house.call("ann", "bo", UNSURE)
            told = all_of(house)
            house.fetch("bo", "ann", fates)
            self.assertEqual(all_of(house), told)

    def test_one_that_comes_behind_a_power_that_went(self):
        house = house_of()
        house.keep("ann", PAGE, ("bo",), None)
        told = house.fetch("bo", "ann", [DOWN])
        self.assertEqual(told, [(1, ("fetch", "bo"), None), (1, ("fetch", "bo"), ("fetch", "bo"))])
        self.assertEqual(house.sent("ann"), [("bo", 0, "unsent")])
        self.assertEqual(house.book("ann"), [("kept", 0, "bo", ()), ("told", 0, "bo", "unsent")])
        house.fetch("bo", "ann", [])
        self.assertEqual(house.sent("ann"), [("bo", 0, "good")])

    def test_pages_fetched_are_passed_on(self):
        house = house_of()
        house.keep("ann", PAGE, ("cy",), "bo")
        house.fetch("bo", "ann", [])
        self.assertEqual(house.book("bo"), [("had", ("ann", 0), ()), ("kept", 0, "cy", ())])
        house.fetch("cy", "bo", [])
        self.assertEqual(house.had("cy"), [(("bo", 0), PAGE, (), ())])


class TestPassingOn(HouseCase):
    def test_as_it_was_had(self):
        house = House()
        for name, breadth in (("ann", 24), ("bo", 12), ("cy", 20), ("di", 9)):
            house.put(name, (breadth, 2, 2, True), 2)
        house.keep("ann", OTHER, ("cy", "di"), "bo")
        house.call("ann", "bo", [])
        page = fit_page(OTHER, 12)
        self.assertEqual(house.had("bo"), [(("ann", 0), page, (), ("cy", "di"))])
        self.assertEqual(house.sent("bo"), [("cy", 0, "waiting"), ("di", 0, "waiting")])
        house.call("bo", "cy", [])
        house.call("bo", "di", [])
        self.assertEqual(house.had("cy"), [(("bo", 0), page, (), ())])
        self.assertEqual(house.had("di"), [(("bo", 0), fit_page(page, 9), (), ())])

    def test_guessed_rows_are_passed_on_as_told(self):
        house = house_of()
        house.keep("ann", PAGE, ("cy",), "bo")
        house.call("ann", "bo", ROUGH)
        self.assertEqual(house.had("bo"), [(("ann", 0), GUESSED, (2,), ("cy",))])
        self.assertEqual(house.book("bo"), [("had", ("ann", 0), (2,)), ("kept", 0, "cy", ())])
        house.call("bo", "cy", [])
        self.assertEqual(house.had("cy"), [(("bo", 0), GUESSED, (), ())])

    def test_rows_of_had_stand_ahead_of_kept_rows(self):
        house = house_of(NAMES)
        house.keep("ann", PAGE, ("cy",), "bo")
        house.keep("ann", OTHER, ("bo",), None)
        house.keep("ann", PAGE, ("eve", "di", "cy"), "bo")
        house.keep("bo", OTHER, ("ann",), None)
        house.call("ann", "bo", [])
        self.assertEqual(house.book("bo"), [
            ("kept", 0, "ann", ()), ("had", ("ann", 0), ()), ("had", ("ann", 1), ()), ("had", ("ann", 2), ()),
            ("kept", 1, "cy", ()), ("kept", 2, "eve", ()), ("kept", 2, "di", ()), ("kept", 2, "cy", ()),
        ])
        due = [("ann", 0), ("cy", 1), ("eve", 2), ("di", 2), ("cy", 2)]
        self.assertEqual(house.sent("bo"), [(to, number, "waiting") for to, number in due])
        self.assertEqual(house.keep("bo", PAGE, ("ann",), None), 3)

    def test_a_page_had_is_passed_on_where_the_sender_is_unsure(self):
        house = house_of()
        house.keep("ann", PAGE, ("cy",), "bo")
        house.call("ann", "bo", UNSURE_HAD)
        self.assertEqual(house.sent("ann"), [("bo", 0, "unsure")])
        house.call("ann", "bo", [])
        self.assertEqual(house.book("bo"), [("had", ("ann", 0), ()), ("kept", 0, "cy", ())])

    def test_a_page_that_was_not_had_is_not_passed_on(self):
        for fates in (UNSURE, UNSENT, REFUSED):
            house = house_of()
            house.keep("ann", PAGE, ("cy",), "bo")
            house.call("ann", "bo", fates)
            self.assertEqual((house.book("bo"), house.sent("bo")), ([], []))

    def call_with_ends(self, ends):
        """A call whose sender tells of these ends, whatever the page was kept for."""
        class OtherEnds(Sender):
            def __init__(self, name, setting, pages):
                Sender.__init__(self, name, setting, [(number, page, ends) for number, page, told in pages])

        house = house_of()
        house.keep("ann", PAGE, ("cy",), "bo")
        with mock.patch("farpage.machine.Sender", OtherEnds):
            house.call("ann", "bo", [])
        self.assertEqual(house.had("bo"), [(("ann", 0), PAGE, (), ends)])
        return house

    def test_itself_and_names_without_a_machine_are_left_out(self):
        for ends, due in (
            (("cy", "bo"), ["cy"]), (("bo", "di", "ann"), ["di", "ann"]), (("zed", "cy", "flo"), ["cy"]),
            (("zed", "bo", "di", "cy"), ["di", "cy"]), (("bo",), []), (("zed",), []), (("zed", "bo"), []), ((), []),
        ):
            house = self.call_with_ends(ends)
            self.assertEqual(house.sent("bo"), [(to, 0, "waiting") for to in due])
            self.assertEqual(house.book("bo"), [("had", ("ann", 0), ())] + [("kept", 0, to, ()) for to in due])
            self.assertEqual(house.keep("bo", PAGE, ("ann",), None), 1 if due else 0)


class TestWhatIsTold(HouseCase):
    def test_book_in_the_order_in_which_things_were_done(self):
        house = house_of()
        house.keep("ann", PAGE, ("bo", "cy"), None)
        house.call("ann", "bo", UNSURE_HAD)
        house.keep("bo", OTHER, ("ann",), None)
        house.keep("ann", PAGE, ("cy",), "bo")
        house.call("bo", "ann", [])
        house.fetch("bo", "ann", [])
        house.call("ann", "cy", REFUSED)
        self.assertEqual(house.book("ann"), [
            ("kept", 0, "bo", ()), ("kept", 0, "cy", ()), ("told", 0, "bo", "unsure"), ("kept", 1, "bo", ("cy",)),
            ("had", ("bo", 0), ()), ("told", 0, "bo", "good"), ("told", 1, "bo", "good"), ("told", 0, "cy", "refused"),
        ])
        self.assertEqual(house.book("bo"), [
            ("had", ("ann", 0), ()), ("kept", 0, "ann", ()), ("told", 0, "ann", "good"), ("had", ("ann", 1), ()),
            ("kept", 1, "cy", ()),
        ])
        self.assertEqual(house.book("cy"), [])
        self.assertEqual(house.sent("ann"), [("bo", 0, "good"), ("cy", 0, "refused"), ("bo", 1, "good")])

    def test_print_one(self):
        house = house_of(NAMES, PLAIN, 3)
        for _ in range(3):
            house.keep("ann", PAGE, ("bo",), None)
        house.call("ann", "bo", [])
        for number in range(3):
            self.assertEqual(house.print_one("bo"), ("ann", number))
        self.assertIsNone(house.print_one("bo"))
        self.assertEqual([row[0] for row in house.had("bo")], [("ann", number) for number in range(3)])

    def test_no_name(self):
        house = house_of()
        for function in (house.had, house.sent, house.book, house.print_one):
            for name in ("eve", "zed", "a"):
                self.assert_changes_nothing(house, NoName, function, name)

    def test_kinds(self):
        house = house_of()
        house.keep("ann", PAGE, ("cy",), "bo")
        told = house.call("ann", "bo", [])
        for rows in (told, house.had("bo"), house.sent("ann"), house.book("ann"), house.book("bo")):
            self.assertIs(type(rows), list)
            self.assertTrue(all(type(row) is tuple for row in rows))

    def test_lists_told_are_the_askers_own(self):
        house = house_of()
        house.keep("ann", PAGE, ("cy",), "bo")
        house.call("ann", "bo", []).clear()
        kept = all_of(house)
        for _ in range(2):
            for rows in (house.had("bo"), house.sent("ann"), house.book("ann"), house.book("bo"), house.sent("bo")):
                self.assertTrue(rows)
                rows.reverse()
                rows.append("other")
                del rows[0]
            self.assertEqual(all_of(house), kept)
        house.call("bo", "cy", [])
        self.assertEqual(house.sent("bo"), [("cy", 0, "good")])

    def test_fates_handed_in_stay_and_may_be_changed(self):
        house = house_of()
        house.keep("ann", PAGE, ("bo",), None)
        spoils = [("turn", 3)]
        fates = [COME] * 6 + [("spoil", spoils), LOSE]
        kept = [COME] * 6 + [("spoil", [("turn", 3)]), LOSE]
        told = house.call("ann", "bo", fates)
        again = list(told)
        self.assertEqual(fates, kept)
        before = all_of(house)
        spoils.clear()
        fates.clear()
        self.assertEqual(told, again)
        self.assertEqual(all_of(house), before)


if __name__ == "__main__":
    unittest.main()
