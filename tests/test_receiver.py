"""Promises 23 to 25, and 2 and 3 of them: what a receiver hears, answers and has."""

import unittest

from farpage.pieces import pieces_of
from farpage.receiver import Receiver
from farpage.runs import plain_bits
from farpage.stream import page_bits
from tests.helper import NO_TEXTS, DueReceiver, patterned_draw, patterned_row

OWN = (16, 2, 3, True)
PLAIN = (16, 2, 3, False)
KEY = ("ann", 0)
OTHER = ("bo", 0)
MARK = "000000000001"
END = (MARK + "1") * 6
# No plain telling begins so, and the mark behind it is met.
NO_ROW = "10000000001"
PAGE = ("#" * 16, "." * 16, ".#" * 8)
ROWS = [patterned_row(16, seed) for seed in range(30)]

# All that a receiver that isn't set answers with None.
WANT_SET = [
    ("trial", "0" * 48), ("trial", ""), ("page", KEY, page_bits(PAGE, 2, 48)), ("piece", KEY, 1, 0, "0"),
    ("ended", KEY, 0, ()), ("ended", KEY, 1, ()),
]
ONLY_SAID = [
    ("can", OWN), ("ready",), ("clear",), ("fail",), ("good", KEY), ("rough", KEY), ("bad", KEY),
    ("lacks", KEY, (0,)), ("busy", KEY), ("fetch", "ann"),
]
NO_WORDS = NO_TEXTS + [
    "", "call", "end", ["call"], ["end"], ("call", None), ("end", 0), ("Call",), ("set", list(PLAIN)), ("set",),
    ("set", (16, 3, 3, False)), ("trial", "0 "), ("trial", ["0"]), ("page", list(KEY), "01"), ("page", KEY, "012"),
    ("piece", KEY, 1, 1, "0"), ("piece", KEY, 1, 0, ""), ("piece", KEY, 1, False, "0"),
    ("piece", ("ann", True), 1, 0, "0"), ("page", ("ann", False), "01"), ("ended", ("ann", False), 0, ()),
    ("ended", KEY, 17, ()), ("ended", KEY, 1, ("bo", "bo")), ("ended", KEY, True, ()), ("ended", KEY, 1, ["bo"]),
    ("set", (8, 1, True, False)), ("set", (8, True, 1, False)),
]


def told_bits(rows):
    """Bits of rows told plainly; in the place of each None a row that is guessed."""
    return "".join(MARK + (NO_ROW if row is None else "1" + plain_bits(row)) for row in rows) + END


def due_rows(rows, breadth=16):
    told = []
    for row in rows:
        told.append(row if row is not None else (told[-1] if told else "." * breadth))
    return tuple(told)


def set_receiver(setting, room=4, own=OWN):
    receiver = Receiver(own, room)
    receiver.hears(("call",))
    receiver.hears(("set", setting))
    return receiver


class ReceiverCase(unittest.TestCase):
    def assert_answers(self, receiver, *pairs):
        for word, due in pairs:
            self.assertEqual(receiver.hears(word), due, word)

    def say_pieces(self, receiver, key, bits, numbers=None):
        pieces = pieces_of(bits)
        for number, piece in enumerate(pieces):
            if numbers is None or number in numbers:
                self.assertIsNone(receiver.hears(("piece", key, len(pieces), number, piece)))
        return len(pieces)

    def give(self, receiver, key, page, ends=()):
        """The page is said to a receiver that isn't set to mend; its answer to ended."""
        self.assertIsNone(receiver.hears(("page", key, page_bits(page, 2, 0))))
        return receiver.hears(("ended", key, 0, ends))


class TestCallSetAndTrial(ReceiverCase):
    def test_call(self):
        for setting in (OWN, PLAIN, (8, 1, 1, False), (64, 4, 4, True)):
            receiver = Receiver(setting, 1)
            self.assert_answers(receiver, (("call",), ("can", setting)), (("call",), ("can", setting)))

    def test_set_below_its_own(self):
        for setting in ((16, 2, 3, True), (16, 2, 3, False), (8, 1, 1, True), (8, 1, 1, False), (15, 2, 2, True)):
            receiver = Receiver(OWN, 1)
            self.assert_answers(receiver, (("set", setting), ("ready",)))
            self.assert_answers(receiver, (("trial", "0" * 16 * setting[2]), ("clear",)))

    def test_set_above_its_own_changes_nothing(self):
        wrongs = [(17, 2, 3, True), (64, 1, 1, False), (16, 4, 3, True), (16, 2, 4, True), (8, 4, 1, False)]
        for wrong in wrongs:
            receiver = Receiver(OWN, 1)
            self.assert_answers(receiver, (("set", wrong), None), (("trial", "0" * 48), None))
            self.assert_answers(receiver, (("trial", "0" * 16 * wrong[2]), None))
            receiver = set_receiver((16, 2, 2, True))
            self.say_pieces(receiver, KEY, page_bits(PAGE, 2, 0), (1, 2))
            self.assert_answers(receiver, (("set", wrong), None), (("trial", "0" * 32), ("clear",)))
            lacks = receiver.hears(("ended", KEY, len(pieces_of(page_bits(PAGE, 2, 0))), ()))
            self.assertEqual(lacks[2][:3], (0, 3, 4))

    def test_set_that_mends_where_its_own_does_not(self):
        receiver = Receiver(PLAIN, 1)
        self.assert_answers(receiver, (("set", OWN), None), (("trial", "0" * 48), None))
        self.assert_answers(receiver, (("set", PLAIN), ("ready",)), (("set", (8, 1, 1, True)), None))
        self.assert_answers(receiver, (("trial", "0" * 48), ("clear",)))
        self.assertEqual(self.give(receiver, KEY, PAGE), ("good", KEY))

    def test_trial(self):
        for speed in (1, 2, 3, 4):
            receiver = set_receiver((8, 1, speed, True), 1, (64, 4, 4, True))
            right = "0" * 16 * speed
            wrongs = ["", "0", right[1:], right + "0", right[1:] + "1", "1" + right[1:], right[:20] + "1" + right[21:],
                      "1" * 16 * speed, right + right, right + "1"]
            for bits in ["0" * 16 * other for other in (1, 2, 3, 4) if other != speed] + wrongs:
                if bits != right:
                    self.assert_answers(receiver, (("trial", bits), ("fail",)))
            self.assert_answers(receiver, (("trial", right), ("clear",)), (("trial", right), ("clear",)))

    def test_set_anew_goes_by_the_new_speed(self):
        receiver = set_receiver(OWN)
        self.assert_answers(receiver, (("set", (16, 2, 2, True)), ("ready",)), (("trial", "0" * 48), ("fail",)))
        self.assert_answers(receiver, (("trial", "0" * 32), ("clear",)))

    def test_where_it_is_not_set(self):
        for ways in ([], [("call",)], [("call",), ("set", OWN), ("call",)], [("set", OWN), ("end",)],
                     [("set", PLAIN), ("end",)], [("set", PLAIN), ("call",)]):
            for word in WANT_SET:
                receiver = Receiver(OWN, 1)
                for way in ways:
                    receiver.hears(way)
                self.assert_answers(receiver, (word, None))
                self.assertEqual((receiver.had(), receiver.held()), ([], []))

    def test_what_is_heard_where_it_is_not_set_is_not_kept(self):
        receiver = Receiver(OWN, 1)
        self.assertIsNone(receiver.hears(("page", KEY, page_bits(PAGE, 2, 0))))
        self.assert_answers(receiver, (("set", PLAIN), ("ready",)), (("ended", KEY, 0, ()), ("bad", KEY)))
        receiver = Receiver(OWN, 1)
        self.assertIsNone(receiver.hears(("piece", KEY, 2, 1, "0")))
        self.assert_answers(receiver, (("set", OWN), ("ready",)), (("ended", KEY, 2, ()), ("lacks", KEY, (0, 1))))


class TestWhatIsNotAnswered(ReceiverCase):
    def kept_piece(self):
        receiver = set_receiver(OWN)
        receiver.hears(("piece", KEY, 3, 1, "0"))
        return receiver, ("ended", KEY, 3, ()), ("lacks", KEY, (0, 2))

    def kept_bits(self):
        receiver = set_receiver(PLAIN)
        receiver.hears(("page", KEY, page_bits(PAGE, 2, 0)))
        return receiver, ("ended", KEY, 0, ()), ("good", KEY)

    def test_words_that_a_receiver_says_and_no_words(self):
        for thing in ONLY_SAID + NO_WORDS + [None, ("fetch", "bo")]:
            for kept in (self.kept_piece, self.kept_bits):
                receiver, word, due = kept()
                self.assert_answers(receiver, (thing, None), (("trial", "0" * 48), ("clear",)), (word, due))
            receiver = Receiver(OWN, 1)
            self.assert_answers(receiver, (thing, None), (("trial", "0" * 48), None))

    def test_page_where_it_mends(self):
        receiver, word, due = self.kept_piece()
        self.assert_answers(receiver, (("page", KEY, page_bits(PAGE, 2, 0)), None), (word, due))
        self.assert_answers(receiver, (("set", PLAIN), ("ready",)), (("ended", KEY, 0, ()), ("bad", KEY)))

    def test_piece_where_it_does_not_mend(self):
        receiver, word, due = self.kept_bits()
        self.assert_answers(receiver, (("piece", KEY, 1, 0, "1"), None), (("piece", OTHER, 1, 0, "1"), None))
        self.assert_answers(receiver, (word, due))
        receiver, word, due = self.kept_piece()
        self.assert_answers(receiver, (("set", PLAIN), ("ready",)), (("piece", KEY, 3, 0, "1"), None))
        self.assert_answers(receiver, (("piece", OTHER, 3, 0, "1"), None), (("set", OWN), ("ready",)), (word, due))

    def test_ended_with_another_kind_of_many(self):
        receiver, word, due = self.kept_piece()
        self.assert_answers(receiver, (("ended", KEY, 0, ()), None), (word, due))
        receiver, word, due = self.kept_bits()
        for many in (1, 2, 3, 16):
            self.assert_answers(receiver, (("ended", KEY, many, ()), None))
        self.assert_answers(receiver, (word, due))


class TestWhatIsKept(ReceiverCase):
    def test_call_and_end_let_go_pieces(self):
        for word, due in ((("call",), ("can", OWN)), (("end",), None)):
            receiver = set_receiver(OWN)
            receiver.hears(("piece", KEY, 2, 0, "0"))
            self.assert_answers(receiver, (word, due), (("ended", KEY, 2, ()), None), (("set", OWN), ("ready",)))
            self.assert_answers(receiver, (("ended", KEY, 2, ()), ("lacks", KEY, (0, 1))))

    def test_call_and_end_let_go_bits(self):
        for word, due in ((("call",), ("can", OWN)), (("end",), None)):
            receiver = set_receiver(PLAIN)
            receiver.hears(("page", KEY, page_bits(PAGE, 2, 0)))
            self.assert_answers(receiver, (word, due), (("ended", KEY, 0, ()), None), (("set", PLAIN), ("ready",)))
            self.assert_answers(receiver, (("ended", KEY, 0, ()), ("bad", KEY)))

    def test_set_anew_keeps_pieces(self):
        receiver = set_receiver(OWN)
        bits = page_bits(PAGE, 2, 0)
        many = self.say_pieces(receiver, KEY, bits, range(0, 16, 2))
        self.assert_answers(receiver, (("set", (16, 1, 1, True)), ("ready",)))
        lacking = tuple(range(1, many, 2))
        self.assert_answers(receiver, (("ended", KEY, many, ()), ("lacks", KEY, lacking)))
        self.assert_answers(receiver, (("set", PLAIN), ("ready",)), (("set", OWN), ("ready",)))
        self.say_pieces(receiver, KEY, bits, lacking)
        self.assert_answers(receiver, (("ended", KEY, many, ()), ("good", KEY)))
        self.assertEqual(receiver.had(), [(KEY, PAGE, (), ())])

    def test_set_anew_keeps_bits(self):
        receiver = set_receiver(PLAIN)
        receiver.hears(("page", KEY, page_bits(PAGE, 2, 0)))
        self.assert_answers(receiver, (("set", OWN), ("ready",)), (("ended", KEY, 0, ()), None))
        self.assert_answers(receiver, (("set", (16, 2, 1, False)), ("ready",)), (("ended", KEY, 0, ()), ("good", KEY)))

    def test_bits_are_read_by_the_breadth_that_is_set(self):
        receiver = set_receiver((8, 2, 1, False))
        receiver.hears(("page", KEY, page_bits(PAGE, 2, 0)))
        self.assert_answers(receiver, (("ended", KEY, 0, ()), ("bad", KEY)))
        self.assert_answers(receiver, (("set", PLAIN), ("ready",)), (("ended", KEY, 0, ()), ("good", KEY)))

    def test_a_page_had_lets_go_nothing_of_another_one(self):
        receiver = set_receiver(OWN)
        many = self.say_pieces(receiver, KEY, page_bits(PAGE, 2, 0))
        receiver.hears(("set", PLAIN))
        self.assertEqual(self.give(receiver, OTHER, PAGE), ("good", OTHER))
        receiver.hears(("set", OWN))
        self.assert_answers(receiver, (("ended", KEY, many, ()), ("good", KEY)))
        receiver = set_receiver(PLAIN)
        receiver.hears(("page", OTHER, page_bits(PAGE, 2, 0)))
        receiver.hears(("set", OWN))
        many = self.say_pieces(receiver, KEY, page_bits(PAGE, 2, 0))
        self.assert_answers(receiver, (("ended", KEY, many, ()), ("good", KEY)), (("set", PLAIN), ("ready",)))
        self.assert_answers(receiver, (("ended", OTHER, 0, ()), ("good", OTHER)))

    def test_bad_of_one_kind_lets_go_nothing_of_the_other_one(self):
        receiver = set_receiver(OWN)
        many = self.say_pieces(receiver, KEY, page_bits(PAGE, 2, 0))
        receiver.hears(("set", PLAIN))
        self.assert_answers(receiver, (("ended", KEY, 0, ()), ("bad", KEY)), (("set", OWN), ("ready",)))
        self.assert_answers(receiver, (("ended", KEY, many, ()), ("good", KEY)))
        receiver = set_receiver(PLAIN)
        receiver.hears(("page", KEY, page_bits(PAGE, 2, 0)))
        receiver.hears(("set", OWN))
        receiver.hears(("piece", KEY, 1, 0, "0"))
        self.assert_answers(receiver, (("ended", KEY, 1, ()), ("bad", KEY)), (("set", PLAIN), ("ready",)))
        self.assert_answers(receiver, (("ended", KEY, 0, ()), ("good", KEY)))

    def test_a_page_stands_in_the_place_of_the_one_kept_ahead(self):
        receiver = set_receiver(PLAIN)
        receiver.hears(("page", KEY, page_bits(PAGE, 2, 0)))
        receiver.hears(("page", OTHER, page_bits(PAGE[:1], 2, 0)))
        self.assert_answers(receiver, (("ended", KEY, 0, ()), ("bad", KEY)), (("ended", OTHER, 0, ()), ("good", OTHER)))
        receiver.hears(("page", KEY, page_bits(PAGE, 2, 0)))
        receiver.hears(("page", KEY, page_bits(PAGE[1:], 2, 0)))
        self.assert_answers(receiver, (("ended", KEY, 0, ()), ("good", KEY)))
        self.assertEqual([row[1] for row in receiver.had()], [PAGE[:1], PAGE[1:]])

    def test_pieces_of_another_key_or_many_let_go_those_kept(self):
        for other in ((OTHER, 3), (("ann", 1), 3), (("anna", 0), 3), (KEY, 2), (KEY, 4)):
            receiver = set_receiver(OWN)
            receiver.hears(("piece", KEY, 3, 0, "0"))
            self.assert_answers(receiver, (("ended", KEY, 3, ()), ("lacks", KEY, (1, 2))))
            receiver.hears(("piece", other[0], other[1], 1, "0"))
            self.assert_answers(receiver, (("ended", KEY, 3, ()), ("lacks", KEY, (0, 1, 2))))
            lacking = (0,) + tuple(range(2, other[1]))
            self.assert_answers(receiver, (("ended", *other, ()), ("lacks", other[0], lacking)))

    def test_of_a_number_said_twice_the_first_piece_stays(self):
        bits = page_bits(PAGE, 2, 0)
        receiver = set_receiver(OWN)
        many = self.say_pieces(receiver, KEY, bits)
        self.say_pieces(receiver, KEY, bits.replace("1", "x").replace("0", "1").replace("x", "0"))
        self.assert_answers(receiver, (("ended", KEY, many, ()), ("good", KEY)))


class TestLacks(ReceiverCase):
    def test_all_that_lack(self):
        bits = told_bits(ROWS[:11])
        for kept in ((), (0,), (15,), (0, 15), (3, 4, 9), tuple(range(15)), tuple(range(1, 16))):
            receiver = set_receiver(OWN)
            self.assertEqual(self.say_pieces(receiver, KEY, bits, kept), 16)
            due = tuple(number for number in range(16) if number not in kept)
            for _ in range(2):
                self.assert_answers(receiver, (("ended", KEY, 16, ()), ("lacks", KEY, due)))
            self.say_pieces(receiver, KEY, bits, due)
            self.assert_answers(receiver, (("ended", KEY, 16, ()), ("good", KEY)))

    def test_of_another_key_or_many_all_lack_and_nothing_is_let_go(self):
        receiver = set_receiver(OWN)
        many = self.say_pieces(receiver, KEY, page_bits(PAGE, 2, 0))
        for key, other in ((OTHER, many), (("ann", 1), many), (KEY, many - 1), (KEY, many + 1), (KEY, 1), (KEY, 16)):
            self.assert_answers(receiver, (("ended", key, other, ()), ("lacks", key, tuple(range(other)))))
        self.assert_answers(receiver, (("ended", KEY, many, ()), ("good", KEY)))

    def test_no_pieces_at_all(self):
        receiver = set_receiver(OWN)
        for many in range(1, 17):
            self.assert_answers(receiver, (("ended", KEY, many, ()), ("lacks", KEY, tuple(range(many)))))


class TestBad(ReceiverCase):
    def bad_bits(self):
        rows = [ROWS[number] for number in range(25)]
        good = told_bits(rows[:3])
        return [
            "", "0", "1", "01" * 40, END, MARK, MARK + "1", (MARK + "1") * 2, (MARK + "1") * 3,
            good[:-len(END)], good[:-len(END)] + MARK + "1" + MARK, told_bits(rows), told_bits(rows[:24] + [None]),
            told_bits([None]), told_bits([rows[0], rows[1], None]), told_bits([None] * 24),
            told_bits([row[:8] for row in rows[:8]]),
        ]

    def test_bad_of_pages(self):
        for bits in self.bad_bits():
            receiver = set_receiver(PLAIN)
            receiver.hears(("page", KEY, bits))
            for _ in range(3):
                self.assert_answers(receiver, (("ended", KEY, 0, ()), ("bad", KEY)))
            self.assertEqual((receiver.had(), receiver.held()), ([], []))

    def test_bad_of_pieces_and_behind_it_all_lack(self):
        for bits in self.bad_bits():
            if bits:
                receiver = set_receiver(OWN)
                many = self.say_pieces(receiver, KEY, bits)
                self.assert_answers(receiver, (("ended", KEY, many, ()), ("bad", KEY)))
                self.assert_answers(receiver, (("ended", KEY, many, ()), ("lacks", KEY, tuple(range(many)))))
                many = self.say_pieces(receiver, KEY, told_bits(ROWS[:5]))
                self.assert_answers(receiver, (("ended", KEY, many, ()), ("good", KEY)))

    def test_the_greatest_page_is_not_bad(self):
        for setting in (OWN, PLAIN):
            receiver = set_receiver(setting)
            bits = told_bits(ROWS[:24])
            many = self.say_pieces(receiver, KEY, bits) if setting[3] else 0
            receiver.hears(("page", KEY, bits))
            self.assert_answers(receiver, (("ended", KEY, many, ()), ("good", KEY)))
            self.assertEqual(receiver.had(), [(KEY, tuple(ROWS[:24]), (), ())])

    def test_an_end_is_met_by_two_empty_stretches(self):
        receiver = set_receiver(PLAIN)
        body = told_bits(ROWS[:3])[:-len(END)]
        self.assert_answers(receiver, (("page", KEY, body + (MARK + "1") * 2 + MARK[:-1]), None))
        self.assert_answers(receiver, (("ended", KEY, 0, ()), ("bad", KEY)))
        self.assert_answers(receiver, (("page", KEY, body + (MARK + "1") * 2 + MARK), None))
        self.assert_answers(receiver, (("ended", KEY, 0, ()), ("good", KEY)))

    def test_just_a_fourth_of_the_rows_may_be_guessed(self):
        for many in range(1, 25):
            for guessed in {0, max(0, many // 4 - 1), many // 4, many // 4 + 1}:
                for first in (0, many - guessed):
                    places = tuple(range(first, first + guessed))
                    rows = [None if place in places else ROWS[place] for place in range(many)]
                    receiver = set_receiver(PLAIN)
                    receiver.hears(("page", KEY, told_bits(rows)))
                    told = receiver.hears(("ended", KEY, 0, ()))
                    if guessed > many // 4:
                        self.assertEqual(told, ("bad", KEY))
                        self.assertEqual(receiver.had(), [])
                    else:
                        self.assertEqual(told, ("rough" if guessed else "good", KEY))
                        self.assertEqual(receiver.had(), [(KEY, due_rows(rows), places, ())])

    def test_any_guessed_row_of_pieces_is_bad(self):
        for many in (1, 4, 8, 24):
            for place in {0, 1, many - 1}:
                rows = [None if number == place else ROWS[number] for number in range(many)]
                receiver = set_receiver(OWN)
                pieces = self.say_pieces(receiver, KEY, told_bits(rows))
                due = ("bad", KEY) if place < many else ("good", KEY)
                self.assert_answers(receiver, (("ended", KEY, pieces, ()), due))

    def test_bits_of_another_key(self):
        receiver = set_receiver(PLAIN)
        self.assert_answers(receiver, (("ended", KEY, 0, ()), ("bad", KEY)))
        receiver.hears(("page", KEY, page_bits(PAGE, 2, 0)))
        for key in (OTHER, ("ann", 1), ("an", 0)):
            self.assert_answers(receiver, (("ended", key, 0, ()), ("bad", key)))
        self.assert_answers(receiver, (("ended", KEY, 0, ()), ("good", KEY)))

    def test_behind_bad_the_bits_of_a_page_are_kept(self):
        receiver = set_receiver((8, 2, 1, False))
        receiver.hears(("page", KEY, page_bits(PAGE, 2, 0)))
        for _ in range(3):
            self.assert_answers(receiver, (("ended", KEY, 0, ()), ("bad", KEY)))
        self.assert_answers(receiver, (("set", PLAIN), ("ready",)), (("ended", KEY, 0, ()), ("good", KEY)))

    def test_bad_comes_ahead_of_busy(self):
        receiver = set_receiver(PLAIN, 1)
        self.assertEqual(self.give(receiver, KEY, PAGE), ("good", KEY))
        receiver.hears(("page", OTHER, END))
        self.assert_answers(receiver, (("ended", OTHER, 0, ()), ("bad", OTHER)))
        self.assertEqual(receiver.held(), [KEY])
        receiver.hears(("set", OWN))
        self.assert_answers(receiver, (("ended", OTHER, 2, ()), ("lacks", OTHER, (0, 1))))
        self.assertEqual(receiver.held(), [KEY])


class TestHadOnce(ReceiverCase):
    def ways(self):
        """What may come between, each leaving the receiver set, and whether it mends then."""
        again = [("call",), ("set", PLAIN)]
        return [
            ([], False), ([("set", OWN)], True), (again, False), ([("call",), ("set", OWN)], True),
            ([("end",)] + again, False), (["power"] + again, False), (["print"], False),
            ([("page", KEY, page_bits(PAGE[:1], 2, 0))], False), ([("page", KEY, END)], False),
            ([("set", OWN), ("piece", KEY, 2, 0, "1")], True),
        ]

    def had_page(self, rows):
        receiver = set_receiver(PLAIN, 2)
        receiver.hears(("page", KEY, told_bits(rows)))
        return receiver, receiver.hears(("ended", KEY, 0, ("cy",)))

    def test_the_same_answer_ever_after(self):
        for rows, kind in ((ROWS[:5], "good"), (ROWS[:4] + [None], "rough")):
            for way, mends in self.ways():
                receiver, answer = self.had_page(rows)
                self.assertEqual(answer, (kind, KEY))
                for thing in way:
                    if thing == "power":
                        receiver.lose_power()
                    elif thing == "print":
                        receiver.print_one()
                    else:
                        receiver.hears(thing)
                for many in (0, 1, 2, 16):
                    for ends in ((), ("bo",), ("cy",)):
                        self.assert_answers(receiver, (("ended", KEY, many, ends), (kind, KEY)))
                self.assertEqual(receiver.had(), [(KEY, due_rows(rows), (4,) * (kind == "rough"), ("cy",))])

    def test_where_it_is_not_set_it_answers_nothing_of_it(self):
        for way in (("call",), ("end",)):
            receiver, answer = self.had_page(ROWS[:3])
            receiver.hears(way)
            self.assert_answers(receiver, (("ended", KEY, 0, ("cy",)), None))

    def test_a_page_had_is_had_again_by_a_full_store_too(self):
        receiver = set_receiver(PLAIN, 1)
        self.assertEqual(self.give(receiver, KEY, PAGE), ("good", KEY))
        self.assertEqual(self.give(receiver, KEY, PAGE[:2]), ("good", KEY))
        self.assertEqual(receiver.held(), [KEY])
        self.assertEqual(receiver.had(), [(KEY, PAGE, (), ())])

    def test_keys_that_are_like_only_in_part(self):
        receiver = set_receiver(PLAIN)
        keys = [("ann", 0), ("ann", 1), ("bo", 0), ("a", 999)]
        for key in keys:
            self.assertEqual(self.give(receiver, key, PAGE), ("good", key))
        self.assertEqual([row[0] for row in receiver.had()], keys)


class TestBusy(ReceiverCase):
    def test_rooms(self):
        for room in (1, 2, 3, 4):
            receiver = set_receiver(PLAIN, room)
            keys = [("ann", number) for number in range(9)]
            for number, key in enumerate(keys):
                told = self.give(receiver, key, PAGE)
                if number < room:
                    self.assertEqual(told, ("good", key))
                    self.assertEqual(receiver.held(), keys[:number + 1])
                    continue
                self.assertEqual(told, ("busy", key))
                self.assertEqual(receiver.held(), keys[number - room + 1:number])
                self.assertEqual(len(receiver.had()), number)
                self.assert_answers(receiver, (("ended", key, 0, ()), ("good", key)))
                self.assertEqual(receiver.held(), keys[number - room + 1:number + 1])
            self.assertEqual([row[0] for row in receiver.had()], keys)

    def test_pieces_are_kept_behind_busy(self):
        receiver = set_receiver(OWN, 1)
        for key in (KEY, OTHER):
            many = self.say_pieces(receiver, key, page_bits(PAGE, 2, 0))
            if key == OTHER:
                self.assert_answers(receiver, (("ended", key, many, ("cy",)), ("busy", key)))
                self.assertEqual(receiver.held(), [])
            self.assert_answers(receiver, (("ended", key, many, ("di",)), ("good", key)))
        self.assertEqual(receiver.had(), [(KEY, PAGE, (), ("di",)), (OTHER, PAGE, (), ("di",))])

    def test_behind_busy_what_is_let_go_is_not_had(self):
        receiver = set_receiver(PLAIN, 1)
        self.give(receiver, KEY, PAGE)
        self.assertEqual(self.give(receiver, OTHER, PAGE), ("busy", OTHER))
        receiver.lose_power()
        self.assert_answers(receiver, (("set", PLAIN), ("ready",)), (("ended", OTHER, 0, ()), ("bad", OTHER)))

    def test_a_page_printed_by_hand_makes_room(self):
        receiver = set_receiver(PLAIN, 1)
        self.give(receiver, KEY, PAGE)
        self.assertEqual(receiver.print_one(), KEY)
        self.assertEqual(self.give(receiver, OTHER, PAGE), ("good", OTHER))


class TestWhatIsTold(ReceiverCase):
    def test_at_first_nothing(self):
        receiver = Receiver(OWN, 1)
        self.assertEqual(receiver.had(), [])
        self.assertEqual(receiver.held(), [])
        self.assertIsNone(receiver.print_one())

    def test_pages_had_in_order(self):
        receiver = set_receiver(PLAIN, 4)
        self.give(receiver, ("bo", 3), PAGE, ("di", "cy"))
        receiver.hears(("page", ("ann", 1), told_bits([None] + ROWS[:7] + [None])))
        self.assert_answers(receiver, (("ended", ("ann", 1), 0, ("cy",)), ("rough", ("ann", 1))))
        receiver.hears(("set", OWN))
        many = self.say_pieces(receiver, ("ann", 0), page_bits(PAGE, 2, 0))
        self.assert_answers(receiver, (("ended", ("ann", 0), many, ()), ("good", ("ann", 0))))
        due = [
            (("bo", 3), PAGE, (), ("di", "cy")),
            (("ann", 1), ("." * 16, *ROWS[:7], ROWS[6]), (0, 8), ("cy",)),
            (("ann", 0), PAGE, (), ()),
        ]
        self.assertEqual(receiver.had(), due)
        for row in receiver.had():
            self.assertEqual([type(part) for part in (row, *row)], [tuple] * 5)
        self.assertEqual(receiver.held(), [("bo", 3), ("ann", 1), ("ann", 0)])

    def test_print_one_in_the_order_of_the_store(self):
        receiver = set_receiver(PLAIN, 3)
        for number in (5, 1, 3):
            self.give(receiver, ("ann", number), PAGE)
        self.assertEqual(receiver.print_one(), ("ann", 5))
        self.assertEqual(receiver.held(), [("ann", 1), ("ann", 3)])
        self.give(receiver, ("ann", 0), PAGE)
        for number in (1, 3, 0):
            self.assertEqual(receiver.print_one(), ("ann", number))
        self.assertIsNone(receiver.print_one())
        self.assertIsNone(receiver.print_one())
        self.assertEqual([row[0][1] for row in receiver.had()], [5, 1, 3, 0])

    def test_power(self):
        receiver = set_receiver(PLAIN, 3)
        self.give(receiver, KEY, PAGE)
        self.give(receiver, OTHER, PAGE)
        receiver.hears(("page", ("cy", 0), page_bits(PAGE, 2, 0)))
        had = receiver.had()
        self.assertIsNone(receiver.lose_power())
        self.assertEqual((receiver.had(), receiver.held()), (had, [KEY, OTHER]))
        for word in WANT_SET:
            self.assert_answers(receiver, (word, None))
        self.assert_answers(receiver, (("set", PLAIN), ("ready",)))
        self.assert_answers(receiver, (("ended", ("cy", 0), 0, ()), ("bad", ("cy", 0))))
        self.assert_answers(receiver, (("set", OWN), ("ready",)), (("piece", ("cy", 0), 2, 0, "1"), None))
        receiver.lose_power()
        self.assert_answers(receiver, (("set", OWN), ("ready",)))
        self.assert_answers(receiver, (("ended", ("cy", 0), 2, ()), ("lacks", ("cy", 0), (0, 1))))

    def test_lists_told_are_the_askers_own(self):
        receiver = set_receiver(PLAIN, 3)
        self.give(receiver, KEY, PAGE)
        for told in (receiver.had(), receiver.held()):
            told.clear()
            told.append("other")
        self.assertEqual(receiver.had(), [(KEY, PAGE, (), ())])
        self.assertEqual(receiver.held(), [KEY])
        self.assertIsNot(receiver.had(), receiver.had())
        self.assertIsNot(receiver.held(), receiver.held())

    def test_two_receivers_know_nothing_of_one_another(self):
        one, other = set_receiver(PLAIN), set_receiver(PLAIN)
        self.give(one, KEY, PAGE)
        self.assertEqual((other.had(), other.held()), ([], []))


class TestByTheDocumentsWords(unittest.TestCase):
    """A receiver and one written anew hear the same drawn things."""

    def drawn_things(self, draw, pages):
        """A few things to be heard one behind the other, mostly words of one page."""
        key = ("ann", draw(4))
        pieces = pages[draw(len(pages))]
        many = len(pieces)
        words = [("piece", key, many, number, bits) for number, bits in enumerate(pieces)]
        setting = ((16, 8)[draw(4) // 3], 1 + draw(2), 1 + draw(3), draw(2) > 0)
        choices = [
            [words[draw(many)]], words, words + [("ended", key, many, ("cy",))], [("page", key, "".join(pieces))],
            [("page", key, "".join(pieces)), ("ended", key, 0, ("bo", "cy"))], [("ended", key, many, ("bo",))],
            [("ended", key, 0, ())], [("ended", key, 1 + draw(16), ())], [("set", setting)],
            [("trial", "0" * 16 * (1 + draw(3)))], [("call",), ("set", setting)] if draw(4) == 0 else [("ready",)],
            [("end",)] if draw(6) == 0 else [None], ["power"] if draw(6) == 0 else ["print"],
        ]
        return choices[draw(len(choices))]

    def do(self, receiver, thing):
        if thing == "print":
            return receiver.print_one()
        return receiver.lose_power() if thing == "power" else receiver.hears(thing)

    def test_drawn(self):
        bits = [told_bits(ROWS[:3]), told_bits(ROWS[:4] + [None]), told_bits([None, ROWS[1]]), told_bits([PAGE[0][:8]])]
        pages = [pieces_of(one) for one in bits]
        answers = set()
        for seed in range(150):
            draw = patterned_draw(seed)
            setting = ((16, 2, 3, True), (16, 2, 3, False))[draw(4) // 3]
            room = 1 + draw(2)
            receiver, due = Receiver(setting, room), DueReceiver(setting, room)
            for _ in range(60):
                for thing in self.drawn_things(draw, pages):
                    told = self.do(receiver, thing)
                    self.assertEqual(told, self.do(due, thing), (seed, thing))
                    self.assertEqual((receiver.had(), receiver.held()), (due.had(), due.held()))
                    answers.add(told[0] if isinstance(told, tuple) else told)
            keys = [row[0] for row in receiver.had()]
            self.assertEqual(len(keys), len(set(keys)))
        due = {"can", "ready", "clear", "fail", "good", "rough", "bad", "lacks", "busy", "ann", None}
        self.assertEqual(answers, due)


if __name__ == "__main__":
    unittest.main()
