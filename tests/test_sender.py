"""Promises 26 and 27, and 2 and 3 of them: what a sender says, hears and tells of its pages."""

import itertools
import unittest

from farpage.pages import fit_page
from farpage.pieces import pieces_of
from farpage.sender import Sender
from farpage.stream import page_bits
from tests.helper import NO_TEXTS, DueSender, patterned_draw, patterned_page

OWN = (32, 2, 3, True)
PLAIN = (32, 2, 3, False)
PAGES = [
    (0, patterned_page(3, 32, 1), ("bo", "cy")), (7, patterned_page(1, 40, 2), ()),
    (3, patterned_page(24, 8, 3), ("di",)), (999, patterned_page(5, 64, 4), ("a", "b", "c", "d")),
]
KEYS = [("ann", number) for number, page, ends in PAGES]
ANSWERS = ("good", "rough", "bad", "busy")
NO_ANSWERS = NO_TEXTS + [
    "", "good", "ready", ["ready"], ("Ready",), ("ready", None), ("clear", 0), ["clear"], ("fetch", "bo"),
]


def due_bits(page, setting):
    breadth, every, speed, mends = setting
    return page_bits(fit_page(page, breadth), every, 0 if mends else 16 * speed)


def due_pieces(place, setting=OWN):
    return pieces_of(due_bits(PAGES[place][1], setting))


def trial(speed):
    return ("trial", "0" * 16 * speed)


class SenderCase(unittest.TestCase):
    def assert_talk(self, sender, *pairs):
        """The sender says each word, asked twice, and hears what stands behind it."""
        for word, heard in pairs:
            self.assertEqual(sender.says(), word)
            self.assertEqual(sender.says(), word)
            self.assertIsNone(sender.hears(heard))

    def words(self, sender):
        return [word for number, word in sender.outcomes()]

    def begun(self, setting=OWN, many=4, far=None):
        """A sender that is on to its first page."""
        sender = Sender("ann", setting, PAGES[:many])
        for heard in (("can", far or setting), ("ready",), ("clear",)):
            sender.hears(heard)
        return sender

    def said_page(self, sender, place, setting=OWN, numbers=None):
        """All that is due of the page at hand is said."""
        if not setting[3]:
            self.assert_talk(sender, (("page", KEYS[place], due_bits(PAGES[place][1], setting)), None))
            return
        pieces = due_pieces(place, setting)
        for number, bits in enumerate(pieces):
            if numbers is None or number in numbers:
                self.assert_talk(sender, (("piece", KEYS[place], len(pieces), number, bits), None))

    def ended(self, place, setting=OWN):
        many = len(due_pieces(place, setting)) if setting[3] else 0
        return ("ended", KEYS[place], many, PAGES[place][2])

    def at_ended(self, setting=OWN, many=4, place=0):
        """A sender that says ended of the page at the place."""
        sender = self.begun(setting, many)
        for ahead in range(place):
            self.said_page(sender, ahead, setting)
            self.assert_talk(sender, (self.ended(ahead, setting), ("good", KEYS[ahead])))
        self.said_page(sender, place, setting)
        self.assertEqual(sender.says(), self.ended(place, setting))
        return sender

    def assert_over(self, sender):
        told = sender.outcomes()
        for thing in (None, ("can", OWN), ("ready",), ("clear",), ("good", KEYS[0]), "x"):
            self.assertIsNone(sender.says())
            self.assertIsNone(sender.hears(thing))
            self.assertEqual(sender.outcomes(), told)
        self.assertIsNone(sender.lose_power())
        self.assertIsNone(sender.says())
        self.assertEqual(sender.outcomes(), told)

    def assert_gives_up(self, sender, *words):
        """The sender is on to end and tells these words, also when its call is over."""
        self.assertEqual(self.words(sender), list(words))
        self.assert_talk(sender, (("end",), None))
        self.assertEqual(self.words(sender), list(words))
        self.assert_over(sender)


class TestCallSetAndTrial(SenderCase):
    def test_the_way_to_the_first_page(self):
        for setting in (OWN, PLAIN, (8, 1, 1, False), (64, 4, 4, True)):
            sender = Sender("ann", setting, PAGES[:1])
            self.assert_talk(sender, (("call",), ("can", setting)), (("set", setting), ("ready",)))
            self.assert_talk(sender, (trial(setting[2]), ("clear",)))
            self.said_page(sender, 0, setting)
            self.assert_talk(sender, (self.ended(0, setting), ("good", KEYS[0])), (("end",), None))
            self.assert_over(sender)
            self.assertEqual(sender.outcomes(), [(0, "good")])

    def test_settings_that_agree_on_less(self):
        pairs = [
            ((64, 4, 4, True), (8, 1, 1, False), (8, 1, 1, False)),
            ((8, 1, 1, False), (64, 4, 4, True), (8, 1, 1, False)),
            ((40, 1, 4, True), (20, 4, 2, True), (20, 1, 2, True)),
            ((32, 2, 3, True), (33, 4, 4, False), (32, 2, 3, False)),
            ((32, 2, 3, False), (32, 2, 3, True), (32, 2, 3, False)),
            ((64, 4, 2, True), (9, 2, 4, True), (9, 2, 2, True)),
        ]
        for own, far, due in pairs:
            sender = Sender("ann", own, PAGES[:1])
            self.assert_talk(sender, (("call",), ("can", far)), (("set", due), ("ready",)), (trial(due[2]), ("clear",)))
            self.said_page(sender, 0, due)
            self.assert_talk(sender, (self.ended(0, due), ("good", KEYS[0])), (("end",), None))

    def test_what_is_no_answer(self):
        words = [
            ("call",), ("can", OWN), ("ready",), ("clear",), ("fail",), ("good", KEYS[0]), ("bad", KEYS[0]), ("end",),
            ("can", (32, 2, True, True)), ("can", list(OWN)), ("can", (32, 3, 3, True)), ("set", OWN),
        ]
        steps = [
            (("call",), [], {("can", OWN)}), (("set", OWN), [("can", OWN)], {("ready",)}),
            (trial(3), [("can", OWN), ("ready",)], {("clear",), ("fail",)}),
        ]
        for word, ahead, answers in steps:
            for thing in NO_ANSWERS + words + [None]:
                if repr(thing) not in [repr(answer) for answer in answers]:
                    sender = Sender("ann", OWN, PAGES)
                    for heard in ahead:
                        sender.hears(heard)
                    self.assert_talk(sender, (word, thing), (word, None))
                    self.assertEqual(self.words(sender), ["waiting"] * 4)
                    self.assert_talk(sender, (word, thing))
                    self.assert_gives_up(sender, *["unsent"] * 4)

    def test_two_things_in_a_row_that_answer_nothing(self):
        sender = Sender("ann", OWN, PAGES)
        answers = [(("call",), ("can", OWN)), (("set", OWN), ("ready",)), (trial(3), ("clear",))]
        for word, answer in answers:
            self.assert_talk(sender, (word, None), (word, ("end",)), (word, answer))
        for number, bits in enumerate(due_pieces(0)):
            self.assert_talk(sender, (("piece", KEYS[0], len(due_pieces(0)), number, bits), "nothing"))
        ended = self.ended(0)
        self.assert_talk(sender, (ended, None), (ended, None), (ended, ("busy", KEYS[0])))
        self.assert_talk(sender, (ended, None), (ended, None), (ended, ("bad", KEYS[0])))
        self.assert_talk(sender, (trial(3), None), (trial(3), None), (trial(3), ("fail",)))
        slow = (32, 2, 2, True)
        self.assert_talk(sender, (("set", slow), None), (("set", slow), None), (("set", slow), ("ready",)))
        self.assert_talk(sender, (trial(2), None), (trial(2), None), (trial(2), ("clear",)))
        self.said_page(sender, 0, slow)
        self.assert_talk(sender, (ended, None), (ended, None), (ended, ("good", KEYS[0])))
        self.said_page(sender, 1, slow)
        self.assertEqual(self.words(sender), ["good"] + ["waiting"] * 3)

    def test_fail_at_each_speed(self):
        for speed in (4, 3, 2, 1):
            for mends in (True, False):
                sender = Sender("ann", (32, 2, speed, mends), PAGES[:2])
                self.assert_talk(sender, (("call",), ("can", (64, 4, 4, True))))
                for less in range(speed, 0, -1):
                    self.assertEqual(self.words(sender), ["waiting"] * 2)
                    self.assert_talk(sender, (("set", (32, 2, less, mends)), ("ready",)), (trial(less), ("fail",)))
                self.assert_gives_up(sender, "unsent", "unsent")

    def test_clear_behind_fails(self):
        for setting in (OWN, PLAIN):
            sender = Sender("ann", setting, PAGES[:1])
            slow, slowest = (32, 2, 2, setting[3]), (32, 2, 1, setting[3])
            self.assert_talk(sender, (("call",), ("can", OWN)), (("set", setting), ("ready",)), (trial(3), ("fail",)))
            self.assert_talk(sender, (("set", slow), ("ready",)), (trial(2), ("fail",)), (("set", slowest), ("ready",)))
            self.assert_talk(sender, (trial(1), ("clear",)))
            self.said_page(sender, 0, slowest)
            self.assert_talk(sender, (self.ended(0, slowest), ("good", KEYS[0])), (("end",), None))


class TestPages(SenderCase):
    def test_all_pages_in_order(self):
        for setting in (OWN, PLAIN, (8, 1, 4, False), (64, 4, 1, True), (11, 4, 2, True)):
            for many in (1, 2, 3, 4):
                sender = self.begun(setting, many)
                for place in range(many):
                    self.said_page(sender, place, setting)
                    self.assertEqual(self.words(sender), ["good"] * place + ["waiting"] * (many - place))
                    self.assert_talk(sender, (self.ended(place, setting), ("good", KEYS[place])))
                self.assertEqual(sender.outcomes(), [(page[0], "good") for page in PAGES[:many]])
                self.assert_talk(sender, (("end",), ("good", KEYS[0])))
                self.assert_over(sender)

    def test_least_goes_by_speed_where_nothing_mends(self):
        for speed in (1, 2, 3, 4):
            sender = self.begun((8, 1, speed, False), 1)
            page = fit_page(PAGES[0][1], 8)
            self.assertEqual(sender.says(), ("page", KEYS[0], page_bits(page, 1, 16 * speed)))
            sender = self.begun((8, 1, speed, True), 1)
            pieces = []
            while sender.says()[0] == "piece":
                pieces.append(sender.says()[4])
                sender.hears(None)
            self.assertEqual("".join(pieces), page_bits(page, 1, 0))

    def test_whatever_is_heard_behind_a_piece_or_page_it_goes_on(self):
        for setting in (OWN, PLAIN):
            for thing in NO_ANSWERS + [None, ("good", KEYS[0]), ("bad", KEYS[0]), ("lacks", KEYS[0], (0,)), ("fail",)]:
                sender = self.begun(setting, 1)
                many = len(due_pieces(0)) if setting[3] else 1
                said = []
                for _ in range(many):
                    said.append(sender.says())
                    sender.hears(thing)
                self.assertEqual(len(set(said)), many)
                self.assert_talk(sender, (self.ended(0, setting), None), (self.ended(0, setting), None))
                self.assertEqual(self.words(sender), ["waiting"])

    def test_other_names_and_numbers(self):
        sender = Sender("abcdefgh", PLAIN, [(12, PAGES[0][1], ("a",))])
        for heard in (("can", PLAIN), ("ready",), ("clear",)):
            sender.hears(heard)
        key = ("abcdefgh", 12)
        self.assert_talk(sender, (("page", key, due_bits(PAGES[0][1], PLAIN)), None))
        self.assert_talk(sender, (("ended", key, 0, ("a",)), ("good", key)), (("end",), None))
        self.assertEqual(sender.outcomes(), [(12, "good")])

    def test_a_page_that_is_one_piece_or_sixteen(self):
        for breadth in range(8, 65, 7):
            for rows in (1, 2, 9, 24):
                page = patterned_page(rows, breadth, rows)
                sender = Sender("ann", (64, 4, 4, True), [(1, page, ())])
                for heard in (("can", (64, 4, 4, True)), ("ready",), ("clear",)):
                    sender.hears(heard)
                pieces = pieces_of(page_bits(fit_page(page, 64), 4, 0))
                for number, bits in enumerate(pieces):
                    self.assert_talk(sender, (("piece", ("ann", 1), len(pieces), number, bits), None))
                self.assertEqual(sender.says(), ("ended", ("ann", 1), len(pieces), ()))


class TestGoodAndRough(SenderCase):
    def test_rough_leads_by_trial(self):
        for setting in (OWN, PLAIN):
            sender = self.at_ended(setting, 2)
            self.assert_talk(sender, (self.ended(0, setting), ("rough", KEYS[0])))
            self.assertEqual(self.words(sender), ["rough", "waiting"])
            self.assert_talk(sender, (trial(3), ("clear",)))
            self.said_page(sender, 1, setting)
            self.assert_talk(sender, (self.ended(1, setting), ("rough", KEYS[1])), (("end",), None))
            self.assertEqual(self.words(sender), ["rough", "rough"])
            self.assert_over(sender)

    def test_a_fail_behind_rough(self):
        sender = self.at_ended(PLAIN, 2)
        self.assert_talk(sender, (self.ended(0, PLAIN), ("rough", KEYS[0])), (trial(3), ("fail",)))
        slow = (32, 2, 2, False)
        self.assert_talk(sender, (("set", slow), ("ready",)), (trial(2), ("clear",)))
        self.said_page(sender, 1, slow)
        self.assertEqual(sender.says(), self.ended(1, slow))

    def test_answers_of_another_key_are_none(self):
        for place in (0, 1):
            for kind in ANSWERS + ("lacks",):
                for key in (KEYS[1 - place], ("bo", PAGES[place][0]), ("ann", 5)):
                    sender = self.at_ended(OWN, 2, place)
                    word = (kind, key) + (((0,),) if kind == "lacks" else ())
                    ended = self.ended(place)
                    self.assert_talk(sender, (ended, word), (ended, word), (ended, word))
                    self.assert_gives_up(sender, *["good"] * place, "unsure", *["unsent"] * (1 - place))

    def test_a_truth_in_the_keys_number_is_no_answer(self):
        sender = self.at_ended(OWN, 1)
        ended = self.ended(0)
        self.assert_talk(sender, (ended, ("good", ("ann", False))), (ended, ("good", ["ann", 0])))
        self.assert_talk(sender, (ended, ("lacks", KEYS[0], (False,))))
        self.assert_gives_up(sender, "unsure")

    def test_answers_to_other_steps(self):
        for kind in ANSWERS:
            sender = Sender("ann", OWN, PAGES[:1])
            word = (kind, KEYS[0])
            self.assert_talk(sender, (("call",), word), (("call",), ("can", OWN)), (("set", OWN), word))
            self.assert_talk(sender, (("set", OWN), ("ready",)), (trial(3), word), (trial(3), word), (trial(3), word))
            self.assert_gives_up(sender, "unsent")

    def test_answers_of_other_steps_to_ended(self):
        words = [("can", OWN), ("ready",), ("clear",), ("fail",), ("end",), ("ended", KEYS[0], 0, ())]
        for thing in NO_ANSWERS + words:
            for place in (0, 1, 3):
                sender = self.at_ended(OWN, 4, place)
                ended = self.ended(place)
                self.assert_talk(sender, (ended, thing), (ended, None))
                self.assertEqual(self.words(sender), ["good"] * place + ["waiting"] * (4 - place))
                self.assert_talk(sender, (ended, thing))
                self.assert_gives_up(sender, *["good"] * place, "unsure", *["unsent"] * (3 - place))


class TestBad(SenderCase):
    def test_all_again_by_trial_and_the_third_time_refused(self):
        for setting in (OWN, PLAIN):
            for place in (0, 1, 2, 3):
                sender = self.at_ended(setting, 4, place)
                for _ in range(2):
                    self.assert_talk(sender, (self.ended(place, setting), ("bad", KEYS[place])), (trial(3), ("clear",)))
                    self.assertEqual(self.words(sender), ["good"] * place + ["waiting"] * (4 - place))
                    self.said_page(sender, place, setting)
                self.assert_talk(sender, (self.ended(place, setting), ("bad", KEYS[place])))
                self.assert_gives_up(sender, *["good"] * place, "refused", *["unsent"] * (3 - place))

    def test_the_count_begins_anew_with_each_page(self):
        sender = self.begun(PLAIN)
        for place in range(4):
            self.said_page(sender, place, PLAIN)
            for _ in range(2):
                self.assert_talk(sender, (self.ended(place, PLAIN), ("bad", KEYS[place])), (trial(3), ("clear",)))
                self.said_page(sender, place, PLAIN)
            self.assert_talk(sender, (self.ended(place, PLAIN), ("good", KEYS[place])))
        self.assert_gives_up(sender, *["good"] * 4)

    def test_the_count_goes_on_through_fails_and_busy(self):
        sender = self.at_ended(PLAIN, 1)
        self.assert_talk(sender, (self.ended(0, PLAIN), ("bad", KEYS[0])), (trial(3), ("fail",)))
        slow = (32, 2, 2, False)
        self.assert_talk(sender, (("set", slow), ("ready",)), (trial(2), ("clear",)))
        self.said_page(sender, 0, slow)
        self.assert_talk(sender, (self.ended(0, slow), ("busy", KEYS[0])), (self.ended(0, slow), ("bad", KEYS[0])))
        self.assert_talk(sender, (trial(2), ("clear",)))
        self.said_page(sender, 0, slow)
        self.assert_talk(sender, (self.ended(0, slow), ("bad", KEYS[0])))
        self.assert_gives_up(sender, "refused")

    def test_behind_lacks_all_is_due_again(self):
        sender = self.at_ended(OWN, 1)
        self.assert_talk(sender, (self.ended(0), ("lacks", KEYS[0], (1,))))
        self.said_page(sender, 0, OWN, (1,))
        self.assert_talk(sender, (self.ended(0), ("bad", KEYS[0])), (trial(3), ("fail",)))
        self.assert_talk(sender, (("set", (32, 2, 2, True)), ("ready",)), (trial(2), ("clear",)))
        self.said_page(sender, 0)
        self.assertEqual(sender.says(), self.ended(0))


class TestLacks(SenderCase):
    def test_the_pieces_that_lack(self):
        many = len(due_pieces(0))
        for numbers in ((0,), (many - 1,), (1, 3), (0, 2, many - 1), tuple(range(many))):
            sender = self.at_ended(OWN, 1)
            self.assert_talk(sender, (self.ended(0), ("lacks", KEYS[0], numbers)))
            self.said_page(sender, 0, OWN, numbers)
            self.assert_talk(sender, (self.ended(0), ("lacks", KEYS[0], numbers[:1])))
            self.said_page(sender, 0, OWN, numbers[:1])
            self.assert_talk(sender, (self.ended(0), ("good", KEYS[0])))
            self.assert_gives_up(sender, "good")

    def test_a_number_not_below_many_is_no_answer(self):
        page = ("." * 8,)
        pieces = pieces_of(page_bits(page, 1, 0))
        many = len(pieces)
        self.assertLess(many, 15)
        for numbers in ((many,), (0, many), (15,), (0, 1, 15), tuple(range(16))):
            sender = Sender("ann", (8, 1, 1, True), [(4, page, ())])
            for heard in [("can", (8, 1, 1, True)), ("ready",), ("clear",)] + [None] * many:
                sender.hears(heard)
            for _ in range(3):
                self.assert_talk(sender, (("ended", ("ann", 4), many, ()), ("lacks", ("ann", 4), numbers)))
            self.assert_gives_up(sender, "unsure")

    def test_lacks_where_nothing_mends_is_no_answer(self):
        for numbers in ((0,), (0, 1), (15,)):
            sender = self.at_ended(PLAIN, 2)
            for _ in range(3):
                self.assert_talk(sender, (self.ended(0, PLAIN), ("lacks", KEYS[0], numbers)))
            self.assert_gives_up(sender, "unsure", "unsent")

    def lack(self, sender, place, setting, numbers, times):
        for _ in range(times):
            self.assert_talk(sender, (self.ended(place, setting), ("lacks", KEYS[place], numbers)))
            self.said_page(sender, place, setting, numbers)

    def test_the_fourth_time_by_a_speed_less(self):
        sender = self.at_ended(OWN, 2)
        for speed in (3, 2, 1):
            setting = (32, 2, speed, True)
            self.lack(sender, 0, setting, (0, 2), 3)
            self.assert_talk(sender, (self.ended(0, setting), ("lacks", KEYS[0], (1, 3))))
            if speed > 1:
                less = (32, 2, speed - 1, True)
                self.assertEqual(self.words(sender), ["waiting", "waiting"])
                self.assert_talk(sender, (("set", less), ("ready",)), (trial(speed - 1), ("clear",)))
                self.said_page(sender, 0, less, (1, 3))
        self.assert_gives_up(sender, "refused", "unsent")

    def test_what_is_due_stays_due_where_a_trial_failed(self):
        sender = self.at_ended(OWN, 1)
        self.lack(sender, 0, OWN, (0,), 3)
        self.assert_talk(sender, (self.ended(0), ("lacks", KEYS[0], (1, 2))))
        for speed in (2, 1):
            setting = (32, 2, speed, True)
            self.assert_talk(sender, (("set", setting), ("ready",)))
            self.assert_talk(sender, (trial(speed), ("fail",) if speed == 2 else ("clear",)))
        self.said_page(sender, 0, setting, (1, 2))
        self.lack(sender, 0, setting, (5,), 3)
        self.assert_talk(sender, (self.ended(0), ("lacks", KEYS[0], (5,))))
        self.assert_gives_up(sender, "refused")

    def test_the_count_begins_anew_with_a_page_that_comes_to_hand(self):
        sender = self.at_ended(OWN, 4)
        for place in range(4):
            self.lack(sender, place, OWN, (0, 1), 3)
            self.assert_talk(sender, (self.ended(place), ("good", KEYS[place])))
            if place < 3:
                self.said_page(sender, place + 1)
        self.assert_gives_up(sender, *["good"] * 4)

    def test_the_count_begins_anew_with_a_failed_trial(self):
        sender = self.at_ended(OWN, 1)
        self.lack(sender, 0, OWN, (0,), 3)
        self.assert_talk(sender, (self.ended(0), ("bad", KEYS[0])), (trial(3), ("fail",)))
        slow = (32, 2, 2, True)
        self.assert_talk(sender, (("set", slow), ("ready",)), (trial(2), ("clear",)))
        self.said_page(sender, 0)
        self.lack(sender, 0, slow, (0,), 3)
        self.assert_talk(sender, (self.ended(0), ("lacks", KEYS[0], (4,))))
        self.assertEqual(sender.says(), ("set", (32, 2, 1, True)))

    def test_the_count_goes_on_through_bad_and_busy_and_nothing(self):
        sender = self.at_ended(OWN, 1)
        self.lack(sender, 0, OWN, (0,), 1)
        self.assert_talk(sender, (self.ended(0), ("bad", KEYS[0])), (trial(3), ("clear",)))
        self.said_page(sender, 0)
        self.lack(sender, 0, OWN, (0,), 1)
        self.assert_talk(sender, (self.ended(0), ("busy", KEYS[0])), (self.ended(0), None))
        self.lack(sender, 0, OWN, (0,), 1)
        self.assert_talk(sender, (self.ended(0), ("lacks", KEYS[0], (0,))))
        self.assertEqual(sender.says(), ("set", (32, 2, 2, True)))

    def test_lacks_that_are_no_answers_do_not_count(self):
        sender = self.at_ended(OWN, 1)
        self.lack(sender, 0, OWN, (0,), 3)
        wrongs = [("lacks", KEYS[1], (0,)), ("lacks", KEYS[0], (1, 0))]
        for wrong in wrongs:
            self.assert_talk(sender, (self.ended(0), wrong))
        self.assert_talk(sender, (self.ended(0), ("good", KEYS[0])))
        self.assert_gives_up(sender, "good")

    def test_the_next_page_is_said_by_the_lesser_speed(self):
        sender = self.at_ended(OWN, 2)
        self.lack(sender, 0, OWN, (0,), 3)
        slow = (32, 2, 2, True)
        self.assert_talk(sender, (self.ended(0), ("lacks", KEYS[0], (0,))), (("set", slow), ("ready",)))
        self.assert_talk(sender, (trial(2), ("clear",)))
        self.said_page(sender, 0, slow, (0,))
        self.assert_talk(sender, (self.ended(0), ("rough", KEYS[0])), (trial(2), ("clear",)))
        self.said_page(sender, 1, slow)
        self.assertEqual(sender.says(), self.ended(1))


class TestBusy(SenderCase):
    def test_to_the_eighth(self):
        for setting in (OWN, PLAIN):
            for place in (0, 2, 3):
                sender = self.at_ended(setting, 4, place)
                for _ in range(7):
                    self.assert_talk(sender, (self.ended(place, setting), ("busy", KEYS[place])))
                    self.assertEqual(self.words(sender), ["good"] * place + ["waiting"] * (4 - place))
                self.assert_talk(sender, (self.ended(place, setting), ("busy", KEYS[place])))
                self.assert_gives_up(sender, *["good"] * place, *["unsent"] * (4 - place))

    def test_the_seventh_and_good(self):
        sender = self.begun(PLAIN)
        for place in range(4):
            self.said_page(sender, place, PLAIN)
            for _ in range(7):
                self.assert_talk(sender, (self.ended(place, PLAIN), ("busy", KEYS[place])))
            self.assert_talk(sender, (self.ended(place, PLAIN), ("good", KEYS[place])))
        self.assert_gives_up(sender, *["good"] * 4)

    def test_the_count_goes_on_through_other_answers(self):
        sender = self.at_ended(OWN, 1)
        ended, busy = self.ended(0), ("busy", KEYS[0])
        self.assert_talk(sender, *[(ended, busy)] * 3, (ended, ("lacks", KEYS[0], (0,))))
        self.said_page(sender, 0, OWN, (0,))
        self.assert_talk(sender, *[(ended, busy)] * 2, (ended, None), (ended, ("bad", KEYS[0])), (trial(3), ("fail",)))
        slow = (32, 2, 2, True)
        self.assert_talk(sender, (("set", slow), ("ready",)), (trial(2), ("clear",)))
        self.said_page(sender, 0)
        self.assert_talk(sender, *[(ended, busy)] * 3)
        self.assert_gives_up(sender, "unsent")


class TestPower(SenderCase):
    def assert_power(self, sender, *words):
        self.assertIsNone(sender.lose_power())
        self.assertEqual(self.words(sender), list(words))
        self.assert_over(sender)

    def test_at_the_steps_ahead_of_the_first_page(self):
        for many in range(3):
            sender = Sender("ann", OWN, PAGES[:3])
            for heard in [("can", OWN), ("ready",)][:many]:
                sender.hears(heard)
            self.assert_power(sender, "unsent", "unsent", "unsent")

    def test_at_each_piece(self):
        for place in (0, 1, 3):
            for many in range(len(due_pieces(place))):
                sender = self.begun() if place == 0 else self.at_ended(OWN, 4, place - 1)
                if place:
                    sender.hears(("good", KEYS[place - 1]))
                for _ in range(many):
                    sender.hears(None)
                self.assertEqual(sender.says()[:4:3], ("piece", many))
                self.assert_power(sender, *["good"] * place, *["unsent"] * (4 - place))

    def test_at_a_page(self):
        sender = self.begun(PLAIN)
        self.assertEqual(sender.says()[0], "page")
        self.assert_power(sender, *["unsent"] * 4)

    def test_at_ended(self):
        for setting in (OWN, PLAIN):
            for place in range(4):
                for heard in ([], [None], [None, None], [("busy", KEYS[place])]):
                    sender = self.at_ended(setting, 4, place)
                    for thing in heard:
                        sender.hears(thing)
                    self.assertEqual(sender.says(), self.ended(place, setting))
                    self.assert_power(sender, *["good"] * place, "unsure", *["unsent"] * (3 - place))

    def test_at_trial_and_set_behind_an_ended(self):
        sender = self.at_ended(OWN, 2)
        sender.hears(("bad", KEYS[0]))
        self.assertEqual(sender.says(), trial(3))
        self.assert_power(sender, "unsent", "unsent")
        sender = self.at_ended(OWN, 2)
        sender.hears(("rough", KEYS[0]))
        self.assert_power(sender, "rough", "unsent")
        sender = self.at_ended(OWN, 2)
        for heard in (("bad", KEYS[0]), ("fail",)):
            sender.hears(heard)
        self.assertEqual(sender.says(), ("set", (32, 2, 2, True)))
        self.assert_power(sender, "unsent", "unsent")
        sender = self.at_ended(OWN, 2)
        sender.hears(("lacks", KEYS[0], (1,)))
        self.assert_power(sender, "unsent", "unsent")

    def test_at_end_and_behind_it(self):
        sender = self.at_ended(OWN, 1)
        sender.hears(("good", KEYS[0]))
        self.assertEqual(sender.says(), ("end",))
        self.assert_power(sender, "good")
        sender = self.at_ended(OWN, 2)
        for _ in range(3):
            sender.hears(None)
        self.assertEqual(sender.says(), ("end",))
        self.assert_power(sender, "unsure", "unsent")
        sender = self.at_ended(OWN, 2)
        for _ in range(3):
            for heard in [("bad", KEYS[0]), ("clear",)] + [None] * len(due_pieces(0)):
                if sender.says() != ("end",):
                    sender.hears(heard)
        self.assert_power(sender, "refused", "unsent")


class TestWhatIsHandedIn(SenderCase):
    def test_the_list_of_pages_may_be_changed_behind_the_call(self):
        pages = list(PAGES[:2])
        sender = Sender("ann", OWN, pages)
        pages[0] = (5, PAGES[3][1], ())
        pages.append(PAGES[2])
        del pages[1]
        self.assertEqual(sender.outcomes(), [(0, "waiting"), (7, "waiting")])
        for heard in (("can", OWN), ("ready",), ("clear",)):
            sender.hears(heard)
        self.said_page(sender, 0)
        pages.clear()
        self.assert_talk(sender, (self.ended(0), ("good", KEYS[0])))
        self.said_page(sender, 1)
        self.assert_talk(sender, (self.ended(1), ("rough", KEYS[1])), (("end",), None))
        self.assertEqual(sender.outcomes(), [(0, "good"), (7, "rough")])

    def test_the_list_of_pages_stays(self):
        pages = list(PAGES)
        sender = Sender("ann", OWN, pages)
        while sender.says() is not None:
            sender.hears(("can", OWN))
        self.assertEqual(pages, PAGES)

    def test_lists_told_are_the_askers_own(self):
        sender = self.at_ended(OWN, 2)
        told = sender.outcomes()
        told[0] = (0, "good")
        told.append("other")
        self.assertEqual(sender.outcomes(), [(0, "waiting"), (7, "waiting")])
        self.assertIsNot(sender.outcomes(), sender.outcomes())
        self.assertTrue(all(type(row) is tuple for row in sender.outcomes()))

    def test_two_senders_of_one_list(self):
        pages = list(PAGES)
        one, other = Sender("ann", OWN, pages), Sender("ann", OWN, pages)
        one.lose_power()
        self.assertEqual(self.words(other), ["waiting"] * 4)
        self.assertEqual(other.says(), ("call",))


class TestByTheDocumentsWords(unittest.TestCase):
    """A sender and one written anew hear the same drawn things."""

    def drawn_thing(self, draw, word):
        """Mostly an answer to the word, at times another thing."""
        if draw(8) == 0:
            return [None, ("clear",), ("ready",), ("good", ("bo", 0)), "x", ("lacks", ("ann", 0), (15,))][draw(6)]
        if word[0] == "call":
            return ("can", ((8, 24, 64)[draw(3)], (1, 2, 4)[draw(3)], 1 + draw(4), draw(3) > 0))
        if word[0] == "set":
            return ("ready",)
        if word[0] == "trial":
            return ("clear",) if draw(6) else ("fail",)
        if word[0] != "ended":
            return None
        numbers = tuple(number for number in range(max(word[2], 1)) if draw(4) == 0) or (0,)
        choices = [("good",), ("rough",), ("bad",), ("busy",), ("busy",), ("lacks", numbers), ("lacks", numbers)]
        kind, *rest = choices[draw(len(choices))]
        return (kind, word[1], *rest)

    def test_drawn(self):
        words = set()
        for seed in range(600):
            draw = patterned_draw(seed)
            setting = ((8, 24, 64)[draw(3)], (1, 2, 4)[draw(3)], 1 + draw(4), draw(3) > 0)
            pages = PAGES[draw(4):]
            sender, due = Sender("ann", setting, pages), DueSender("ann", setting, pages)
            while due.says() is not None:
                self.assertEqual(sender.says(), due.says(), seed)
                self.assertEqual(sender.outcomes(), due.outcomes(), seed)
                if draw(300) == 0:
                    sender.lose_power()
                    due.lose_power()
                    break
                thing = self.drawn_thing(draw, due.says())
                sender.hears(thing)
                due.hears(thing)
            self.assertIsNone(sender.says(), seed)
            self.assertEqual(sender.outcomes(), due.outcomes(), seed)
            told = [word for number, word in sender.outcomes()]
            self.assertLessEqual(told.count("unsure"), 1)
            words.update(told)
        self.assertEqual(words, {"good", "rough", "refused", "unsure", "unsent"})


class TestWordsAreFew(unittest.TestCase):
    SETTING = (64, 4, 4, True)
    # The longest talk has as many pieces as may be.
    PAGES = [(number, patterned_page(24, 64, number), ()) for number in range(60)]
    PAGES = [page for page in PAGES if len(pieces_of(page_bits(page[1], 4, 0))) == 16][:4]

    def words_of(self, setting, answer):
        """How many words are said where all is answered so."""
        sender = Sender("ann", setting, self.PAGES)
        many = 0
        while sender.says() is not None:
            many += 1
            self.assertLessEqual(many, 1000)
            sender.hears(answer(sender.says()))
        return many

    def stubborn(self, orders, fails, misses):
        """Answers so many misses behind their words: so many fails, and of each page its own order, then rough."""
        left = {("ann", page[0]): list(order) for page, order in zip(self.PAGES, orders)}
        state = {"misses": 0, "fails": fails}

        def answer(word):
            if word[0] in ("call", "set", "trial", "ended") and state["misses"] < misses:
                state["misses"] += 1
                return None
            state["misses"] = 0
            if word[0] == "trial" and state["fails"]:
                state["fails"] -= 1
                return ("fail",)
            if word[0] != "ended":
                return {"call": ("can", (64, 4, 4, True)), "set": ("ready",), "trial": ("clear",)}.get(word[0])
            kind = left[word[1]].pop(0) if left[word[1]] else "rough"
            return (kind, word[1]) + ((tuple(range(word[2])),) if kind == "lacks" else ())

        return answer

    def test_as_long_as_may_be(self):
        self.assertEqual(len(self.PAGES), 4)
        told = []
        for many in itertools.product((3, 7, 11, 15), repeat=2):
            for turn in range(3):
                kinds = [[("lacks",) * lacks, ("busy",) * 7, ("bad",) * 2] for lacks in (*many, 3, 3)]
                orders = [sum(parts[turn:] + parts[:turn], ()) for parts in kinds]
                for fails, misses in itertools.product((0, 1, 3), (0, 2)):
                    told.append(self.words_of(self.SETTING, self.stubborn(orders, fails, misses)))
        self.assertGreater(max(told), 800)

    def test_one_answer_for_ever(self):
        for kind in ("lacks", "busy", "bad", "rough", "good"):
            for fails, speed, mends in itertools.product(range(5), (1, 4), (True, False)):
                self.words_of((64, 4, speed, mends), self.stubborn([(kind,) * 400] * 4, fails, 2))

    def test_nothing_for_ever(self):
        self.assertEqual(self.words_of(self.SETTING, lambda word: None), 4)


if __name__ == "__main__":
    unittest.main()
