"""Promises 28 and 29, and 2 and 3 of them: calls and fetches by the fates of their words."""

import itertools
import unittest

from farpage.calls import run_call, run_fetch
from farpage.pages import fit_page
from farpage.pieces import pieces_of
from farpage.receiver import Receiver
from farpage.sender import Sender
from farpage.spoils import spoiled
from farpage.stream import mark_ends, page_bits
from tests.helper import DueReceiver, DueSender, drawn_fates, patterned_draw, patterned_page

MENDS = (16, 2, 2, True)
PLAIN = (16, 2, 2, False)
PAGES = [
    (4, patterned_page(4, 16, 1), ("cy",)), (5, patterned_page(2, 20, 2), ()), (9, patterned_page(8, 16, 3), ()),
    (0, patterned_page(1, 8, 4), ("cy", "di")),
]
KEYS = [("ann", number) for number, page, ends in PAGES]
COME, LOSE, CUT, WHOLE, DOWN, GONE = [(fate,) for fate in ("come", "lose", "cut", "whole", "down", "gone")]
CALL, READY, CLEAR, FAIL, END = ("call",), ("ready",), ("clear",), ("fail",), ("end",)
TRIAL = ("trial", "0" * 32)
FETCH = ("fetch", "bo")
ALL_FATES = [
    COME, LOSE, CUT, WHOLE, DOWN, GONE, ("spoil", []), ("spoil", [("turn", 0)]),
    ("spoil", [("lose", 3), ("put", 2, "1")]),
]


def bits_of(place, setting=PLAIN):
    breadth, every, speed, mends = setting
    return page_bits(fit_page(PAGES[place][1], breadth), every, 0 if mends else 16 * speed)


def page_word(place):
    return ("page", KEYS[place], bits_of(place))


def ended(place, many=0):
    return ("ended", KEYS[place], many, PAGES[place][2])


def came(*pairs):
    """The rows of words that came, told of pairs of who and word."""
    return [(who, word, word) for who, word in pairs]


def begin(setting=PLAIN):
    trial = ("trial", "0" * 16 * setting[2])
    return came((0, CALL), (1, ("can", setting)), (0, ("set", setting)), (1, READY), (0, trial), (1, CLEAR))


def ends(setting=PLAIN, many=1, room=4, pages=PAGES):
    return Sender("ann", setting, pages[:many]), Receiver(setting, room)


def due_say(wire, who, word, here, there):
    """One word said, by the words of promise 28."""
    fate = wire["fates"].pop(0) if wire["fates"] else COME
    if fate == GONE:
        here.lose_power()
    if fate == DOWN:
        there.lose_power()
    wire["cut"] = fate == CUT or (wire["cut"] and fate != WHOLE)
    heard = word
    if fate[0] == "spoil":
        heard = (*word[:-1], spoiled(word[-1], fate[1])) if word[0] in ("trial", "page") else None
    if wire["cut"] or fate in (LOSE, DOWN):
        heard = None
    wire["told"].append((who, word, heard))
    return heard


def due_call(sender, receiver, fates, name=None):
    """A call, or a fetch by the name, by the words of promises 28 and 29."""
    wire = {"fates": list(fates), "cut": False, "told": []}
    if name is not None:
        heards = []
        while len(heards) < 3 and heards[-1:] in ([], [None]):
            heards.append(due_say(wire, 1, ("fetch", name), receiver, sender))
        if heards[-1] is None:
            return wire["told"]
    while sender.says() is not None:
        heard = due_say(wire, 0, sender.says(), sender, receiver)
        answer = receiver.hears(heard) if heard is not None else None
        sender.hears(due_say(wire, 1, answer, receiver, sender) if answer is not None else None)
    return wire["told"]


class CallCase(unittest.TestCase):
    def assert_call(self, fates, due, words, setting=PLAIN, many=1, room=4):
        """By the fates the words due are said, and the sender tells these words; both ends are told."""
        sender, receiver = ends(setting, many, room)
        handed = list(fates)
        self.assertEqual(run_call(sender, receiver, handed), due)
        self.assertEqual(handed, list(fates))
        self.assertEqual([word for number, word in sender.outcomes()], words)
        self.assertIsNone(sender.says())
        return sender, receiver


class TestCallsWithoutFates(CallCase):
    def test_one_page(self):
        due = begin() + came((0, page_word(0)), (0, ended(0)), (1, ("good", KEYS[0])), (0, END))
        sender, receiver = self.assert_call([], due, ["good"])
        self.assertEqual(receiver.had(), [(KEYS[0], PAGES[0][1], (), ("cy",))])

    def test_one_to_four_pages(self):
        for many in (1, 2, 3, 4):
            due = begin()
            for place in range(many):
                due += came((0, page_word(place)), (0, ended(place)), (1, ("good", KEYS[place])))
            sender, receiver = self.assert_call([], due + came((0, END)), ["good"] * many, PLAIN, many)
            self.assertEqual([row[0] for row in receiver.had()], KEYS[:many])

    def test_mending(self):
        for many in (1, 4):
            due = begin(MENDS)
            for place in range(many):
                pieces = pieces_of(bits_of(place, MENDS))
                for number, bits in enumerate(pieces):
                    due += came((0, ("piece", KEYS[place], len(pieces), number, bits)))
                due += came((0, ended(place, len(pieces))), (1, ("good", KEYS[place])))
            sender, receiver = self.assert_call([], due + came((0, END)), ["good"] * many, MENDS, many)
            self.assertEqual([row[1] for row in receiver.had()], [fit_page(page[1], 16) for page in PAGES[:many]])

    def test_a_full_store(self):
        due = begin() + came((0, page_word(0)), (0, ended(0)), (1, ("good", KEYS[0])), (0, page_word(1)))
        due += came((0, ended(1)), (1, ("busy", KEYS[1])), (0, ended(1)), (1, ("good", KEYS[1])), (0, END))
        sender, receiver = self.assert_call([], due, ["good", "good"], PLAIN, 2, 1)
        self.assertEqual(receiver.held(), [KEYS[1]])

    def test_ends_that_agree_on_less(self):
        sender, receiver = Sender("ann", (64, 4, 4, True), PAGES[:1]), Receiver(PLAIN, 1)
        due = begin() + came((0, page_word(0)), (0, ended(0)), (1, ("good", KEYS[0])), (0, END))
        self.assertEqual(run_call(sender, receiver, []), due)

    def test_a_page_that_was_had_ahead(self):
        receiver = Receiver(PLAIN, 1)
        for _ in range(2):
            sender = Sender("ann", PLAIN, PAGES[:1])
            due = begin() + came((0, page_word(0)), (0, ended(0)), (1, ("good", KEYS[0])), (0, END))
            self.assertEqual(run_call(sender, receiver, []), due)
        self.assertEqual(len(receiver.had()), 1)

    def test_a_sender_whose_call_is_over(self):
        sender, receiver = ends()
        sender.lose_power()
        self.assertEqual(run_call(sender, receiver, [COME, DOWN]), [])
        sender, receiver = ends()
        run_call(sender, receiver, [])
        self.assertEqual(run_call(sender, receiver, []), [])


class TestFates(CallCase):
    PAGE_ON = came((0, page_word(0)), (0, ended(0)), (1, ("good", KEYS[0])), (0, END))
    DUE = begin() + PAGE_ON

    def test_come(self):
        for many in (1, 5, 10, 60):
            self.assert_call([COME] * many, self.DUE, ["good"])

    def test_lose_at_each_word(self):
        def due(place, *again):
            row = self.DUE[place][:2] + (None,)
            return self.DUE[:place] + [row] + list(again) + self.DUE[place + 1:]

        for place in (0, 2, 4, 7):
            self.assert_call([COME] * place + [LOSE], due(place, self.DUE[place]), ["good"])
        for place in (1, 3, 5, 8):
            again = self.DUE[place - 1:place + 1]
            self.assert_call([COME] * place + [LOSE], due(place, *again), ["good"])
        self.assert_call([COME] * 9 + [LOSE], due(9), ["good"])
        lost = self.DUE[:6] + [(0, page_word(0), None)] + came((0, ended(0)), (1, ("bad", KEYS[0])))
        self.assert_call([COME] * 6 + [LOSE], lost + came((0, TRIAL), (1, CLEAR)) + self.PAGE_ON, ["good"])

    def test_lost_three_times(self):
        due = [(0, CALL, None)] * 3 + came((0, END))
        self.assert_call([LOSE] * 3, due, ["unsent", "unsent"], PLAIN, 2)
        due = self.DUE[:7] + [(0, ended(0), None)] * 3 + came((0, END))
        sender, receiver = self.assert_call([COME] * 7 + [LOSE] * 3, due, ["unsure", "unsent"], PLAIN, 2)
        self.assertEqual(receiver.had(), [])
        due = self.DUE[:7] + [(0, ended(0), ended(0)), (1, ("good", KEYS[0]), None)] * 3 + came((0, END))
        fates = [COME] * 7 + [COME, LOSE] * 3
        sender, receiver = self.assert_call(fates, due, ["unsure", "unsent"], PLAIN, 2)
        self.assertEqual([row[0] for row in receiver.had()], KEYS[:1])

    def test_a_lost_end(self):
        sender, receiver = ends()
        self.assertEqual(run_call(sender, receiver, [COME] * 9 + [LOSE])[-1], (0, END, None))
        self.assertEqual(receiver.hears(TRIAL), CLEAR)
        sender, receiver = ends()
        run_call(sender, receiver, [])
        self.assertIsNone(receiver.hears(TRIAL))

    def test_spoiled_trial(self):
        spoils = [("turn", 5)]
        bad = ("trial", "0" * 5 + "1" + "0" * 26)
        slow = (16, 2, 1, False)
        due = self.DUE[:4] + [(0, TRIAL, bad)] + came((1, FAIL), (0, ("set", slow)), (1, READY))
        due += came((0, ("trial", "0" * 16)), (1, CLEAR), (0, ("page", KEYS[0], bits_of(0, slow))))
        due += came((0, ended(0)), (1, ("good", KEYS[0])), (0, END))
        self.assert_call([COME] * 4 + [("spoil", spoils)], due, ["good"])
        self.assert_call([COME] * 4 + [("spoil", [])], self.DUE, ["good"])
        self.assert_call([COME] * 4 + [("spoil", [("turn", 40), ("lose", 32)])], self.DUE, ["good"])
        same = [("turn", 3), ("turn", 3), ("put", 0, "0"), ("lose", 32)]
        self.assert_call([COME] * 4 + [("spoil", same)], self.DUE, ["good"])

    def test_spoiled_page(self):
        page = PAGES[0][1]
        # The last row is told by the row above; by the other tag its telling is none.
        spoils = [("turn", mark_ends(bits_of(0))[3]), ("lose", len(bits_of(0)) - 1)]
        row = [(0, page_word(0), ("page", KEYS[0], spoiled(bits_of(0), spoils)))]
        due = self.DUE[:6] + row + came((0, ended(0)), (1, ("rough", KEYS[0])), (0, END))
        sender, receiver = self.assert_call([COME] * 6 + [("spoil", spoils)], due, ["rough"])
        self.assertEqual(receiver.had(), [(KEYS[0], page[:3] + page[2:3], (3,), ("cy",))])

    def test_other_words_are_lost_by_a_spoil(self):
        for spoils in ([], [("turn", 0)]):
            for place in (0, 1, 2, 3, 5, 7, 8, 9):
                sender, receiver = ends()
                told = run_call(sender, receiver, [COME] * place + [("spoil", spoils)])
                sender, receiver = ends()
                self.assertEqual(told, run_call(sender, receiver, [COME] * place + [LOSE]))
                self.assertEqual(told[place], self.DUE[place][:2] + (None,))
        sender, receiver = ends(MENDS)
        told = run_call(sender, receiver, [COME] * 6 + [("spoil", [])])
        self.assertEqual((told[6][1][0], told[6][2]), ("piece", None))

    def test_cut(self):
        due = [(0, CALL, None)] * 3 + [(0, END, None)]
        for fates in ([CUT], [CUT, COME], [CUT, CUT, COME, COME], [CUT, LOSE, ("spoil", [])], [CUT] * 60):
            self.assert_call(fates, due, ["unsent"])
        due = self.DUE[:7] + [(0, ended(0), None)] * 3 + [(0, END, None)]
        self.assert_call([COME] * 7 + [CUT, COME, COME, COME], due, ["unsure"])
        due = self.DUE[:4] + [(0, TRIAL, None)] * 3 + [(0, END, None)]
        self.assert_call([COME] * 4 + [LOSE, CUT, ("spoil", [("turn", 1)])], due, ["unsent"])

    def test_cut_until_whole(self):
        due = [(0, CALL, None)] * 2 + self.DUE
        self.assert_call([CUT, COME, WHOLE], due, ["good"])
        due = self.DUE[:5] + [(1, CLEAR, None)] + self.DUE[4:]
        self.assert_call([COME] * 5 + [CUT, WHOLE], due, ["good"])
        due = self.DUE[:5] + [(1, CLEAR, None), (0, TRIAL, None)] + self.DUE[4:]
        self.assert_call([COME] * 5 + [CUT, COME, WHOLE], due, ["good"])

    def test_cut_again_behind_whole(self):
        due = [(0, CALL, None), (0, CALL, CALL), (1, ("can", PLAIN), None), (0, CALL, None), (0, END, None)]
        self.assert_call([CUT, WHOLE, CUT], due, ["unsent"])
        self.assert_call([CUT, WHOLE, CUT, COME, WHOLE], due[:4] + came((0, END)), ["unsent"])

    def test_whole_by_a_wire_that_is_not_cut(self):
        self.assert_call([WHOLE] * 10, self.DUE, ["good"])
        self.assert_call([WHOLE, COME, WHOLE], self.DUE, ["good"])

    def test_down_at_the_receiver(self):
        due = self.DUE[:4] + [(0, TRIAL, None)] + [(0, TRIAL, TRIAL)] * 2 + came((0, END))
        sender, receiver = self.assert_call([COME] * 4 + [DOWN], due, ["unsent"])
        due = [(0, CALL, None)] + self.DUE
        self.assert_call([DOWN], due, ["good"])
        due = self.DUE[:7] + [(0, ended(0), None)] + [(0, ended(0), ended(0))] * 2 + came((0, END))
        sender, receiver = self.assert_call([COME] * 7 + [DOWN], due, ["unsure"])
        self.assertEqual(receiver.had(), [])

    def test_down_at_the_sender(self):
        for place in (1, 3, 5):
            due = self.DUE[:place] + [self.DUE[place][:2] + (None,)]
            self.assert_call([COME] * place + [DOWN], due, ["unsent"])
        due = self.DUE[:8] + [(1, ("good", KEYS[0]), None)]
        sender, receiver = self.assert_call([COME] * 8 + [DOWN], due, ["unsure", "unsent"], PLAIN, 2)
        self.assertEqual([row[0] for row in receiver.had()], KEYS[:1])

    def test_gone_at_the_sender(self):
        for place in (0, 2, 4):
            self.assert_call([COME] * place + [GONE], self.DUE[:place + 2], ["unsent"])
        self.assert_call([COME] * 6 + [GONE], self.DUE[:7], ["unsent"])
        sender, receiver = self.assert_call([COME] * 7 + [GONE], self.DUE[:9], ["unsure"])
        self.assertEqual([row[0] for row in receiver.had()], KEYS[:1])
        self.assert_call([COME] * 9 + [GONE], self.DUE, ["good"])

    def test_the_answer_to_a_sender_whose_power_went_takes_its_fate(self):
        for fate in ALL_FATES:
            sender, receiver = ends()
            told = run_call(sender, receiver, [COME] * 4 + [GONE, fate])
            answer = CLEAR if fate in (COME, WHOLE, GONE) else None
            self.assertEqual(told, self.DUE[:5] + [(1, CLEAR, answer)])
            self.assertEqual(receiver.hears(TRIAL), None if fate == GONE else CLEAR)

    def test_gone_at_the_receiver(self):
        due = self.DUE[:6] + came((0, page_word(0))) + [(0, ended(0), ended(0))] * 3 + came((0, END))
        self.assert_call([COME] * 5 + [GONE], due, ["unsure"])
        due = self.DUE[:9] + came((0, page_word(1))) + [(0, ended(1), ended(1))] * 3 + came((0, END))
        self.assert_call([COME] * 8 + [GONE], due, ["good", "unsure"], PLAIN, 2)
        self.assert_call([COME, GONE], self.DUE, ["good"])
        due = self.DUE[:4] + [(0, TRIAL, TRIAL)] * 3 + came((0, END))
        self.assert_call([COME] * 3 + [GONE], due, ["unsent"])

    def test_gone_comes_ahead_of_anything_else(self):
        log = []

        class LoggedSender(Sender):
            def hears(self, thing):
                log.append(("sender hears", thing))
                Sender.hears(self, thing)

            def lose_power(self):
                log.append("sender's power")
                Sender.lose_power(self)

        class LoggedReceiver(Receiver):
            def hears(self, thing):
                log.append(("receiver hears", thing))
                return Receiver.hears(self, thing)

            def lose_power(self):
                log.append("receiver's power")
                Receiver.lose_power(self)

        run_call(LoggedSender("ann", PLAIN, PAGES[:1]), LoggedReceiver(PLAIN, 1), [GONE, GONE])
        due = ["sender's power", ("receiver hears", CALL), "receiver's power", ("sender hears", ("can", PLAIN))]
        self.assertEqual(log, due)

    def test_down_and_gone_by_a_cut_wire(self):
        due = [(0, CALL, None)]
        self.assert_call([CUT, GONE], due * 2, ["unsent"])
        sender, receiver = ends()
        receiver.hears(("set", PLAIN))
        self.assertEqual(run_call(sender, receiver, [CUT, DOWN])[1:], due * 2 + [(0, END, None)])
        self.assertIsNone(receiver.hears(TRIAL))
        sender, receiver = ends()
        receiver.hears(("set", PLAIN))
        run_call(sender, receiver, [CUT, COME])
        self.assertEqual(receiver.hears(TRIAL), CLEAR)
        due = self.DUE[:7] + [(0, ended(0), None)] * 2
        self.assert_call([COME] * 7 + [CUT, GONE], due, ["unsure"])

    def test_sixty_fates(self):
        fates = [COME] * 6 + [LOSE, COME, COME, COME, COME] * 10
        sender, receiver = ends()
        self.assertEqual(run_call(sender, receiver, fates[:60]), due_call(*ends(), fates[:60]))
        sender, receiver = Sender("ann", MENDS, PAGES), Receiver(MENDS, 1)
        fates = [COME] * 6 + [LOSE] * 16 + [COME] * 37 + [CUT]
        self.assertEqual(len(fates), 60)
        told = run_call(sender, receiver, fates)
        self.assertEqual([heard is None for who, word, heard in told], [fate == LOSE for fate in fates[:59]] +
                         [True] * (len(told) - 59))

    def test_each_fate_at_each_word(self):
        for setting, many, room in ((PLAIN, 2, 4), (MENDS, 2, 1)):
            words = len(run_call(*ends(setting, many, room), []))
            for place, fate in itertools.product(range(words), ALL_FATES):
                for behind in ([], [LOSE], [COME, WHOLE], [GONE]):
                    fates = [COME] * place + [fate] + behind
                    sender, receiver = ends(setting, many, room)
                    due_sender, due_receiver = DueSender("ann", setting, PAGES[:many]), DueReceiver(setting, room)
                    told = run_call(sender, receiver, fates)
                    self.assertEqual(told, due_call(due_sender, due_receiver, fates), (place, fate, behind))
                    self.assertEqual(sender.outcomes(), due_sender.outcomes())
                    self.assertEqual(receiver.had(), due_receiver.had())


class TestFetch(CallCase):
    DUE = begin() + came((0, page_word(0)), (0, ended(0)), (1, ("good", KEYS[0])), (0, END))

    def assert_fetch(self, fates, due, words):
        sender, receiver = ends()
        handed = list(fates)
        self.assertEqual(run_fetch("bo", sender, receiver, handed), due)
        self.assertEqual(handed, list(fates))
        self.assertEqual([word for number, word in sender.outcomes()], [words])
        return sender, receiver

    def test_that_comes(self):
        lost = (1, FETCH, None)
        self.assert_fetch([], [(1, FETCH, FETCH)] + self.DUE, "good")
        self.assert_fetch([LOSE], [lost, (1, FETCH, FETCH)] + self.DUE, "good")
        self.assert_fetch([LOSE, ("spoil", [])], [lost, lost, (1, FETCH, FETCH)] + self.DUE, "good")
        self.assert_fetch([CUT, WHOLE], [lost, (1, FETCH, FETCH)] + self.DUE, "good")
        self.assert_fetch([CUT, COME, WHOLE], [lost, lost, (1, FETCH, FETCH)] + self.DUE, "good")

    def test_that_never_comes(self):
        due = [(1, FETCH, None)] * 3
        for fates in ([LOSE] * 3, [CUT], [CUT, COME, LOSE], [("spoil", [("turn", 0)])] * 4, [LOSE, LOSE, CUT, WHOLE]):
            sender, receiver = self.assert_fetch(fates, due, "waiting")
            self.assertEqual(sender.says(), CALL)
            self.assertEqual(receiver.had(), [])

    def test_another_name(self):
        sender, receiver = ends()
        word = ("fetch", "abcdefgh")
        self.assertEqual(run_fetch("abcdefgh", sender, receiver, [LOSE])[:2], [(1, word, None), (1, word, word)])

    def test_fates_left_go_on_in_the_call(self):
        due = [(1, FETCH, None), (1, FETCH, FETCH), (0, CALL, None)] + self.DUE
        self.assert_fetch([LOSE, COME, LOSE], due, "good")
        due = [(1, FETCH, FETCH), (0, CALL, None), (0, CALL, None), (0, CALL, None), (0, END, None)]
        self.assert_fetch([COME, CUT], due, "unsent")

    def test_a_wire_that_is_cut_stays_so_in_the_call(self):
        fates = [CUT, WHOLE, CUT]
        due = [(1, FETCH, None), (1, FETCH, FETCH), (0, CALL, None), (0, CALL, None), (0, CALL, None), (0, END, None)]
        self.assert_fetch(fates, due, "unsent")
        sender, receiver = ends()
        told = run_fetch("bo", sender, receiver, [GONE, CUT, GONE])
        self.assertEqual(told, [(1, FETCH, FETCH)] + [(0, CALL, None)] * 2)

    def test_down_takes_the_senders_power(self):
        lost = (1, FETCH, None)
        self.assert_fetch([DOWN], [lost, (1, FETCH, FETCH)], "unsent")
        self.assert_fetch([LOSE, DOWN], [lost, lost, (1, FETCH, FETCH)], "unsent")
        self.assert_fetch([LOSE, LOSE, DOWN], [lost] * 3, "unsent")
        self.assert_fetch([DOWN] * 3, [lost] * 3, "unsent")
        self.assert_fetch([CUT, DOWN], [lost] * 3, "unsent")
        self.assert_fetch([CUT, DOWN, WHOLE], [lost, lost, (1, FETCH, FETCH)], "unsent")

    def test_gone_takes_the_receivers_power(self):
        for fates in ([GONE], [CUT, GONE, COME]):
            sender, receiver = ends()
            receiver.hears(("set", PLAIN))
            told = run_fetch("bo", sender, receiver, fates + [LOSE] * 3)
            self.assertIsNone(receiver.hears(TRIAL))
            self.assertEqual(told[0], (1, FETCH, None if fates[0] == CUT else FETCH))
        self.assert_fetch([GONE], [(1, FETCH, FETCH)] + self.DUE, "good")

    def test_a_fetch_is_no_answer_for_the_sender(self):
        sender, receiver = ends()
        told = run_fetch("bo", sender, receiver, [LOSE, LOSE, COME, LOSE, LOSE])
        self.assertEqual(told[3:], [(0, CALL, None)] * 2 + self.DUE)

    def test_each_fate_at_each_word(self):
        for fates in itertools.product(ALL_FATES, repeat=3):
            for place in (0, 3):
                handed = [*fates[:2], *[COME] * place, fates[2]]
                sender, receiver = ends()
                due_sender, due_receiver = DueSender("ann", PLAIN, PAGES[:1]), DueReceiver(PLAIN, 4)
                told = run_fetch("bo", sender, receiver, handed)
                self.assertEqual(told, due_call(due_sender, due_receiver, handed, "bo"), handed)
                self.assertEqual(sender.outcomes(), due_sender.outcomes())


class TestWhatIsHandedIn(unittest.TestCase):
    def test_fates_and_spoils_stay(self):
        spoils = [("turn", 1), ("put", 2, "1")]
        fates = [COME, LOSE, COME, ("spoil", spoils), CUT, WHOLE, ("spoil", spoils), GONE]
        kept = list(fates)
        for run in (run_call, lambda *handed: run_fetch("bo", *handed)):
            run(*ends(), fates)
            self.assertEqual(fates, kept)
            self.assertEqual(spoils, [("turn", 1), ("put", 2, "1")])

    def test_what_is_told_stays_where_fates_and_spoils_are_changed(self):
        for run in (run_call, lambda *handed: run_fetch("bo", *handed)):
            spoils = [("turn", 40)]
            fates = [COME] * 6 + [("spoil", spoils)] * 3
            told = run(*ends(), fates)
            kept = list(told)
            spoils.clear()
            fates.clear()
            self.assertEqual(told, kept)

    def test_the_list_told_is_the_askers_own(self):
        sender, receiver = ends()
        told = run_call(sender, receiver, [])
        told.clear()
        self.assertEqual(sender.outcomes(), [(4, "good")])
        self.assertEqual(len(run_call(Sender("ann", PLAIN, PAGES[:1]), receiver, [])), 10)


class TestDrawnCalls(unittest.TestCase):
    """Calls of drawn ends by drawn fates, held against the document's words and against promise 3."""

    def drawn_setting(self, draw, mends):
        return ((8, 16, 20)[draw(3)], (1, 2, 4)[draw(3)], 1 + draw(4), mends)

    def check_promise(self, sender, receiver, told, pages, agreed):
        had = {key: page for key, page, guessed, ends in receiver.had()}
        words = dict(sender.outcomes())
        for number, page, ends in pages:
            word, key = words[number], ("ann", number)
            if word in ("good", "rough"):
                self.assertIn(key, had)
                if agreed[3]:
                    self.assertEqual(had[key], fit_page(page, agreed[0]))
            elif word in ("refused", "unsent"):
                self.assertNotIn(key, had)
            else:
                self.assertEqual(word, "unsure")
        self.assertLessEqual(list(words.values()).count("unsure"), 1)
        self.assertEqual(len(had), len(receiver.had()))

    def check_pieces(self, told, fates):
        """While power stays no piece is said again that had come."""
        if not any(fate in (DOWN, GONE) for fate in fates):
            come = []
            for who, word, heard in told:
                if word[0] == "piece":
                    self.assertNotIn(word[1:4], come)
                    if heard is not None:
                        come.append(word[1:4])

    def check(self, draw, settings, pages, fates, name):
        """One call by the fates; the words told of its pages, none where there is no call."""
        room = 1 + draw(2)
        one, other = settings
        agreed = tuple(min(pair) for pair in zip(one[:3], other[:3])) + (one[3] and other[3],)
        sender, receiver = Sender("ann", one, pages), Receiver(other, room)
        due_sender, due_receiver = DueSender("ann", one, pages), DueReceiver(other, room)
        told = run_call(sender, receiver, fates) if name is None else run_fetch(name, sender, receiver, fates)
        self.assertEqual(told, due_call(due_sender, due_receiver, fates, name))
        self.assertEqual(sender.outcomes(), due_sender.outcomes())
        self.assertEqual((receiver.had(), receiver.held()), (due_receiver.had(), due_receiver.held()))
        self.check_pieces(told, fates)
        if name is not None and not any(row[2] == ("fetch", name) for row in told):
            return []
        self.check_promise(sender, receiver, told, pages, agreed)
        return [word for number, word in sender.outcomes()]

    def test_drawn(self):
        outcomes = set()
        for seed in range(500):
            draw = patterned_draw(seed)
            mends = draw(3) > 0
            settings = [self.drawn_setting(draw, mends), self.drawn_setting(draw, mends or draw(2) == 0)]
            fates = drawn_fates(draw, draw(61), 1 + draw(6))
            outcomes.update(self.check(draw, settings, PAGES[draw(4):], fates, "bo" if draw(3) == 0 else None))
        self.assertGreaterEqual(outcomes, {"good", "unsure", "unsent"})

    def aimed_fates(self, draw, setting, pages):
        """Fates of which most come, but those of pieces and pages are spoilt and lost."""
        fates = []
        while len(fates) < 60:
            told = run_call(Sender("ann", setting, pages), Receiver(setting, 4), fates)[len(fates):]
            kinds = [word[0] in ("page", "piece") for who, word, heard in told]
            if True not in kinds:
                break
            fates += [COME if draw(20) else LOSE] * kinds.index(True)
            place = draw(len(told[kinds.index(True)][1][-1]))
            fates.append([COME, LOSE, ("spoil", [("turn", place)]), ("spoil", [("lose", place)])][draw(4)])
        return fates[:60]

    def test_aimed(self):
        outcomes = []
        for seed in range(80):
            draw = patterned_draw(seed)
            setting = (16, (1, 2, 4)[draw(3)], 1 + draw(2), draw(2) == 0)
            pages = PAGES[draw(3):]
            outcomes += self.check(draw, [setting, setting], pages, self.aimed_fates(draw, setting, pages), None)
        for word in ("good", "rough", "refused", "unsure", "unsent"):
            self.assertGreater(outcomes.count(word), 5, word)


if __name__ == "__main__":
    unittest.main()
