"""[31] to [33] Checks, and sounds packed into streams."""

import random
import unittest

from tests.helpers import NO_SOUNDS, ODD, PROJECT, refused, refuses_numbers, some_sound, told, undefined, warped
from tests.streams import (
    bits_of, body_of_bits, check_bit_by_bit, frame_of_body, frame_places, head, mended, samples_bit_by_bit, shortest, stream_by,
)
from trackloom.errors import InvalidBytes, InvalidNumber, InvalidSamples
from trackloom.packing import check_of, damaged, frame_at, packed, patched, slack_of, spliced, unpacked

ROW = tuple(k * 7919 % 256 for k in range(20000))
# None of these is a row of bytes.
NO_BYTES = tuple(value for value in ODD if value != (0,) * 9) + (
    0, [], [1], (256,), (-1,), (1, True), (False,), (1, None), (1, "1"), ((),), "TL", b"TL", ROW + (0,), (PROJECT,),
    tuple(float(k) for k in range(3)),
) + tuple(warped((84, 76)))
# These are bytes, but no frame rows.
NO_ROWS = (
    (), (84,), (84, 76), (84, 76, 0), (84, 76, 0, 0, 0), (0,) * 9, (84, 76, 0, 0, 0, 1), (84, 77, 0, 0, 0, 0), (85, 76, 0, 0, 0, 0),
    (76, 84, 0, 0, 0, 0), (84, 76, 0, 0, 0, 0, 0), (84, 76, 0, 0, 2, 89), (84, 76, 0, 1, 0, 0), ROW,
)
MANY = (0, 1, 2, 3, 4, 63, 64, 65, 128, 129, 600)
SLACKS = (0, 1, 255)


def some_stream(source, many=None, slack=None):
    """A stream with any kinds and widths, and the sound that it unpacks to."""
    sound = some_sound(source, source.choice(MANY) if many is None else many)
    slack = source.choice(SLACKS + (7,)) if slack is None else slack
    frames = (len(sound) + 63) // 64
    return stream_by(sound, slack, [(source.randrange(4), source.randrange(16)) for _ in range(frames)])


def with_bytes(stream, at, *values):
    return stream[:at] + values + stream[at + len(values):]


class Checks(unittest.TestCase):
    def test_known_ones(self):
        self.assertEqual(told(self, check_of, ()), 65535)
        self.assertEqual(told(self, check_of, tuple(map(ord, "123456789"))), 0x29B1)
        self.assertEqual(told(self, check_of, (65,)), 0xB915)

    def test_each_byte(self):
        for byte in range(256):
            self.assertEqual(check_of((byte,)), check_bit_by_bit((byte,)))
            self.assertEqual(check_of((byte, 255 - byte, 0)), check_bit_by_bit((byte, 255 - byte, 0)))

    def test_many_bytes(self):
        source = random.Random(311)
        for many in (2, 3, 50, 999, 20000):
            row = tuple(source.randrange(256) for _ in range(many))
            self.assertEqual(told(self, check_of, row), check_bit_by_bit(row))
        self.assertEqual(check_of(ROW), check_bit_by_bit(ROW))

    def test_refused(self):
        for value in NO_BYTES:
            refused(self, InvalidBytes, value, check_of, value)


class Packed(unittest.TestCase):
    def test_by_hand(self):
        self.assertEqual(told(self, packed, (), 5), (84, 76, 5, 0, 0, 0))
        # Kind 0, width 0, and one bit 0: the rest 0.
        self.assertEqual(told(self, packed, (0,), 0), (84, 76, 0, 0, 0, 1, 0, 2, 0, 0) + divmod(check_bit_by_bit((0, 0)), 256))
        # -2 is e = -2, u = 3: by width 1 these are the bits 101. With slack 1 e is -1 / 3, rounded down, u = 1: by width 0 10.
        self.assertEqual(packed((-2,), 0)[8:10], (1, 0b10100000))
        self.assertEqual(packed((-2,), 1)[8:10], (0, 0b10000000))
        self.assertEqual(told(self, unpacked, packed((-2,), 1)), (-3,))

    def test_as_the_document_tells(self):
        source = random.Random(312)
        sounds = [some_sound(source, many) for many in MANY for _ in range(4)]
        sounds += [(0,) * 600, (32767, -32768) * 300, (-32768,) * 65, tuple(range(-300, 300)), tuple(k * k % 60000 - 30000 for k in range(600))]
        kinds = set()
        for sound in sounds:
            for slack in SLACKS:
                best = shortest(sound, slack)
                stream, samples = stream_by(sound, slack, best)
                self.assertEqual(packed(sound, slack), stream)
                self.assertEqual(unpacked(stream), samples)
                self.assertTrue(all(abs(x - y) <= slack for x, y in zip(sound, samples, strict=True)))
                kinds |= {kind for kind, _ in best}
        self.assertEqual(kinds, {0, 1, 2, 3})

    def test_wholly(self):
        source = random.Random(313)
        for many in (1, 64, 200):
            for slack in (0, 9, 255):
                sound = some_sound(source, many)
                samples = told(self, unpacked, told(self, packed, sound, slack))
                self.assertTrue(all(abs(x - y) <= slack for x, y in zip(sound, samples, strict=True)))
                if slack == 0:
                    self.assertEqual(samples, sound)

    def test_ties_go_to_the_least_kind_and_width(self):
        for sound, body in (((0,) * 64, 0), ((1,), 0), ((5, 5), 2), ((0, 1, 2), 0)):
            self.assertEqual(packed(sound, 0)[8], body, sound)
            kind, width = shortest(sound, 0)[0]
            self.assertEqual(16 * kind + width, body)

    def test_escapes(self):
        """In each of these the shortest body has codes whose q is 39, 40, or more."""
        for u in (39, 40, 41, 79, 80, 65535):
            sound = (0,) * 63 + (u // 2 if u % 2 == 0 else -(u + 1) // 2,)
            stream, samples = stream_by(sound, 0, shortest(sound, 0))
            self.assertEqual(packed(sound, 0), stream)
            self.assertEqual(unpacked(stream), sound)
            self.assertEqual(stream[8], 0)
        bits, _ = bits_of((20,), 0, 0, 0)
        self.assertEqual(bits, "1" * 40 + f"{40:020b}")
        bits, _ = bits_of((-20,), 0, 0, 0)
        self.assertEqual(bits, "1" * 39 + "0")

    def test_widths_by_which_a_code_is_just_no_escape_any_more(self):
        for many in range(40):
            for value in (20, -20, 39, 40, -40):
                sound = (0,) * many + (value,)
                self.assertEqual(packed(sound, 0), stream_by(sound, 0, shortest(sound, 0))[0])

    def test_samples_beyond_the_bounds_are_held(self):
        sound = (32700, 32767, 32767, -32768, -32700, -32768)
        for slack in (100, 255):
            samples = unpacked(packed(sound, slack))
            self.assertTrue(all(abs(x - y) <= slack and -32768 <= y <= 32767 for x, y in zip(sound, samples)))
        # p + e * (2 * slack + 1) is 64 * 511 = 32704, and 65 * 511 lies beyond by more; -64 * 511 - 511 does, too.
        stream, samples = stream_by((32767, -32768), 255, [(0, 9)])
        self.assertEqual((samples, unpacked(stream)), ((32704, -32704),) * 2)
        stream, samples = stream_by((32767, -32768), 100, [(0, 9)])
        self.assertEqual((samples, unpacked(stream)), ((32763, -32763),) * 2)
        stream, samples = stream_by((32767, -32768), 5, [(0, 9)])
        self.assertEqual((samples, unpacked(stream)), ((32767, -32768),) * 2)

    def test_refused_in_their_order(self):
        for value in NO_SOUNDS:
            refused(self, InvalidSamples, value, packed, value, -1)
        refuses_numbers(self, InvalidNumber, packed, ((1, 2, 3), 0), 1, 0, 255)

    def test_600_free_samples(self):
        source = random.Random(314)
        sound = tuple(source.randrange(-32768, 32768) for _ in range(600))
        for slack in (0, 3):
            stream = told(self, packed, sound, slack)
            self.assertEqual(stream, stream_by(sound, slack, shortest(sound, slack))[0])


class Streams(unittest.TestCase):
    def test_any_kinds_and_widths(self):
        source = random.Random(321)
        for many in MANY:
            for slack in SLACKS + (7, 254):
                stream, samples = some_stream(source, many, slack)
                self.assertEqual(told(self, unpacked, stream), samples)
                self.assertEqual(told(self, slack_of, stream), slack)
                self.assertEqual(told(self, damaged, stream), ())
                self.assertEqual(patched(stream), samples)

    def test_each_kind_and_width(self):
        source = random.Random(322)
        for kind in range(4):
            for width in range(16):
                for many in (1, 2, 3, 4, 30):
                    stream, samples = stream_by(some_sound(source, many), source.choice(SLACKS), [(kind, width)])
                    self.assertEqual(unpacked(stream), samples)

    def test_a_kind_with_more_first_samples_than_there_are(self):
        for sound in ((-5,), (7, -32768)):
            for kind in range(len(sound), 4):
                stream, samples = stream_by(sound, 255, [(kind, 15)])
                self.assertEqual(unpacked(stream), sound)
                self.assertEqual(len(stream), 6 + 2 + 1 + 2 * len(sound) + 2)

    def is_none(self, value):
        for function in (unpacked, slack_of):
            refused(self, InvalidBytes, value, function, value)
        refused(self, InvalidBytes, value, spliced, value, None)
        refused(self, InvalidBytes, value, spliced, (84, 76, 0, 0, 0, 0), value)

    def test_what_is_none(self):
        for value in NO_BYTES + NO_ROWS + ((84, 76, 256, 0, 0, 0), [84, 76, 0, 0, 0, 0]):
            self.is_none(value)

    def test_a_byte_changed_put_to_or_left_out(self):
        source = random.Random(323)
        for many in (1, 5, 70):
            stream, _ = some_stream(source, many, 1)
            for at in range(len(stream)):
                for value in {stream[at] ^ 1, stream[at] ^ 128, 0, 255, 256} - {stream[at]}:
                    changed = with_bytes(stream, at, value)
                    if at == 2 and value < 256:
                        continue
                    self.is_none(changed)
                self.is_none(stream[:at] + stream[at + 1:])
                self.is_none(stream[:at] + (77,) + stream[at:])
                self.is_none(stream[:at])
            self.is_none(stream + (0,))
            self.is_none(stream + stream)

    def test_another_slack_is_another_stream(self):
        """Its bits are the same, so it is one as long as no sample lies too far beyond the bounds."""
        stream, _ = stream_by((1, 2, 3, -4), 0, [(1, 2)])
        for slack in (1, 255):
            other = with_bytes(stream, 2, slack)
            self.assertEqual(slack_of(other), slack)
            step = 2 * slack + 1
            self.assertEqual(unpacked(other), (1, 1 + step, 1 + 2 * step, 1 - 5 * step))

    def test_samples_too_far_beyond_the_bounds(self):
        for slack in (0, 1, 100, 255):
            step = 2 * slack + 1
            for sign in (1, -1):
                bound = 32767 if sign > 0 else 32768
                least = bound // step
                for e in range(least - 2, least + 4):
                    u = 2 * e if sign > 0 else 2 * e - 1
                    bits = "1" * (u >> 11) + "0" + f"{u % 2048:011b}"
                    stream = head(1, slack) + frame_of_body(body_of_bits(0, 11, bits)) if u >> 11 < 40 else None
                    stream = stream or head(1, slack) + frame_of_body(body_of_bits(0, 11, "1" * 40 + f"{u:020b}"))
                    if e * step - bound > slack:
                        self.is_none(stream)
                    else:
                        self.assertEqual(unpacked(stream), (sign * min(bound, e * step),))

    def test_number_of_samples_that_does_not_fit(self):
        stream, _ = some_stream(random.Random(324), 128, 0)
        for many in (0, 1, 64, 127, 129, 192, 600, 601, 65536 + 128, 2 ** 24 - 1):
            self.is_none(head(many, 0) + stream[6:])
        self.is_none(head(601, 0) + stream_by((0,) * 601, 0, [(0, 0)] * 10)[0][6:])

    def test_frames_exchanged(self):
        stream, _ = stream_by(tuple(range(70)), 0, [(1, 0), (1, 0)])
        (first, last), (other, end) = frame_places(stream)
        self.is_none(stream[:6] + stream[other - 2:] + stream[first - 2:last + 2])

    def test_filling(self):
        for samples, kind, width in (((0, 1, 2), 0, 0), ((5,), 1, 3), ((9, 9, 9, 9), 0, 3), ((0,) * 7, 0, 0)):
            bits, _ = bits_of(samples, kind, width, 0)
            fine = body_of_bits(kind, width, bits)
            self.assertEqual(unpacked(head(len(samples), 0) + frame_of_body(fine)), samples)
            self.is_none(head(len(samples), 0) + frame_of_body(fine + (0,)))
            self.is_none(head(len(samples), 0) + frame_of_body(fine[:-1]))
            for bit in range(-len(bits) % 8):
                self.is_none(head(len(samples), 0) + frame_of_body(fine[:-1] + (fine[-1] | 1 << bit,)))

    def test_escapes_that_need_not_be_or_are_too_small(self):
        for width in (0, 1, 5, 15):
            for u in (0, 1, 39 << width, (40 << width) - 1, 40 << width, (41 << width) + 1):
                if u >= 1 << 16:
                    continue
                stream = head(1, 0) + frame_of_body(body_of_bits(0, width, "1" * 40 + f"{u:020b}"))
                if u >> width < 40:
                    self.is_none(stream)
                else:
                    self.assertEqual(unpacked(stream), (u // 2 if u % 2 == 0 else -(u + 1) // 2,))

    def test_kinds_above_3(self):
        for first in range(64, 256):
            self.is_none(head(1, 0) + frame_of_body((first, 0)))
            self.is_none(head(1, 0) + frame_of_body((first, 0, 5)))

    def test_bits_that_end_too_soon(self):
        for body in ((0,), (16,), (16, 1), (32,), (48, 1), (15, 0), (0, 255, 255), (0, 255, 255, 255, 255, 255, 0, 0)):
            self.is_none(head(1, 0) + frame_of_body(body))
        for body in ((0,), (0, 63), (16, 1, 2), (16, 1, 2, 127), (32, 1, 2, 3, 4), (48, 1, 2, 3, 4), (48, 1, 2, 3, 4, 5)):
            self.is_none(head(3, 0) + frame_of_body(body))

    def test_checks(self):
        stream, _ = some_stream(random.Random(325), 64, 0)
        for at in (-1, -2):
            for bit in range(8):
                self.is_none(with_bytes(stream, len(stream) + at, stream[at] ^ 1 << bit) if at == -2
                             else stream[:-1] + (stream[-1] ^ 1 << bit,))

    def test_20000_bytes_at_once(self):
        body = tuple(random.Random(326).randrange(256) for _ in range(19990))
        row = head(64, 0) + frame_of_body(body)
        self.assertEqual(len(row), 20000)
        self.is_none(row)
        self.assertEqual(told(self, damaged, row), (0,))
        row = head(64, 0) + frame_of_body(body + (0,))
        refused(self, InvalidBytes, row, damaged, row)


class Frames(unittest.TestCase):
    def test_none_damaged(self):
        source = random.Random(331)
        for many in MANY:
            stream, samples = some_stream(source, many)
            rows = [told(self, frame_at, stream, number) for number in range((many + 63) // 64)]
            self.assertEqual(sum(rows, ()), samples)
            self.assertEqual([len(row) for row in rows[:-1]], [64] * (len(rows) - 1 if rows else 0))

    def holds(self, row, samples, bad):
        """Sees that just the frames with these numbers are damaged."""
        self.assertEqual(told(self, damaged, row), tuple(sorted(bad)))
        expected = ()
        for number in range((len(samples) + 63) // 64):
            piece = samples[64 * number:64 * number + 64]
            if number in bad:
                undefined(self, "damage", frame_at, row, number)
                expected += (0,) * len(piece)
            else:
                self.assertEqual(told(self, frame_at, row, number), piece)
                expected += piece
        self.assertEqual(told(self, patched, row), expected)
        if bad:
            refused(self, InvalidBytes, row, unpacked, row)
            refused(self, InvalidBytes, row, slack_of, row)

    def test_some_all_and_none(self):
        source = random.Random(332)
        for many in (1, 64, 65, 200, 600):
            stream, samples = some_stream(source, many, source.choice(SLACKS))
            places = frame_places(stream)
            for bad in ((), range(len(places)), source.sample(range(len(places)), (len(places) + 1) // 2)):
                row = stream
                for number in bad:
                    first, last = places[number]
                    for at in source.choice(([first], [last - 1], [last], [last + 1], [first, last], [last - 1, last])):
                        row = with_bytes(row, at, row[at] ^ 1 << source.randrange(8))
                self.holds(row, samples, bad)

    def test_bodies_with_a_right_check_but_wrong_bits(self):
        stream, samples = stream_by(tuple(range(130)), 0, [(0, 3), (1, 2), (2, 1)])
        places = frame_places(stream)
        for number, (first, last) in enumerate(places):
            self.holds(mended(with_bytes(stream, first, 64 + stream[first])), samples, [number])
        # A bit of the filling.
        self.assertEqual(stream[places[1][1] - 1] & 1, 0)
        self.holds(mended(with_bytes(stream, places[1][1] - 1, stream[places[1][1] - 1] | 1)), samples, [1])

    def test_other_right_samples_are_not_damage(self):
        stream, _ = stream_by((1, 2), 0, [(1, 0)])
        first = frame_places(stream)[0][0]
        row = mended(with_bytes(stream, first + 2, 7))
        self.holds(row, (7, 8), [])

    def test_frame_rows_that_are_none(self):
        stream, _ = stream_by(tuple(range(130)), 0, [(0, 3), (1, 2), (2, 1)])
        places = frame_places(stream)
        first, last = places[0]
        one = stream[first - 2:last + 2]
        rows = [
            with_bytes(stream, 0, 85), with_bytes(stream, 1, 84), stream[1:], stream[:-1], stream + (0,), stream[:6],
            head(601, 0) + one * 10, head(65, 0) + one, head(64, 0) + one * 2, head(0, 0) + one, head(1, 0),
            with_bytes(stream, first - 2, 0, 0), with_bytes(stream, first - 1, stream[first - 1] + 1),
            with_bytes(stream, first - 1, stream[first - 1] - 1), with_bytes(stream, places[2][0] - 2, 255, 255),
            stream[:last + 2], stream[:first], head(64, 0) + (0, 0, 255, 255), head(64, 0) + (0,), head(64, 0) + (0, 1, 0, 0),
        ]
        for row in list(NO_BYTES) + list(NO_ROWS) + rows + [list(stream)]:
            refused(self, InvalidBytes, row, frame_at, row, -1)
            refused(self, InvalidBytes, row, damaged, row)
            refused(self, InvalidBytes, row, patched, row)

    def test_frame_rows_with_the_least_bodies(self):
        row = head(128, 9) + (0, 1, 0, 1, 2) * 2
        self.holds(row, (0,) * 128, [0, 1])
        self.holds(head(0, 255), (), [])
        many = head(600, 0) + (0, 1, 255, 255, 255) * 10
        self.assertEqual(told(self, damaged, many), tuple(range(10)))

    def test_numbers(self):
        stream, _ = some_stream(random.Random(333), 130, 1)
        refuses_numbers(self, InvalidNumber, frame_at, (stream, 0), 1, 0, 2)
        # The number is refused ahead of the damage.
        row = with_bytes(stream, len(stream) - 1, stream[-1] ^ 1)
        refused(self, InvalidNumber, 3, frame_at, row, 3)
        undefined(self, "damage", frame_at, row, 2)
        for number in (0, -1, None):
            refused(self, InvalidNumber, number, frame_at, head(0, 0), number)

    def test_up_to_sixteen_neighbouring_bits_are_always_told(self):
        source = random.Random(334)
        stream, _ = stream_by(tuple(k * k for k in range(80)), 0, [(2, 2), (1, 6)])
        for number, (first, last) in enumerate(frame_places(stream)):
            bits = "".join(f"{byte:08b}" for byte in stream[first:last + 2])
            for at in range(len(bits)):
                for many in (1, source.randrange(2, 16), 16):
                    many = min(many, len(bits) - at)
                    mask = source.randrange(1, 2 ** many)
                    changed = bits[:at] + f"{int(bits[at:at + many], 2) ^ mask:0{many}b}" + bits[at + many:]
                    body = tuple(int(changed[k:k + 8], 2) for k in range(0, len(changed), 8))
                    self.assertEqual(damaged(stream[:first] + body + stream[last + 2:]), (number,))

    def test_frames_of_free_bytes(self):
        source = random.Random(335)
        right = 0
        for _ in range(3000):
            many, slack = source.choice((1, 2, 3, 5)), source.choice((0, 255))
            body = (source.randrange(70),) + tuple(source.choice((0, 1, 255, 128, source.randrange(256)))
                                                   for _ in range(source.randrange(9)))
            row = head(many, slack) + frame_of_body(body)
            samples = samples_bit_by_bit(body, many, slack)
            if samples is None:
                undefined(self, "damage", frame_at, row, 0)
            else:
                self.assertEqual(frame_at(row, 0), samples)
                right += 1
        self.assertGreater(right, 100)


class Spliced(unittest.TestCase):
    def test_two_streams(self):
        source = random.Random(341)
        for one_many in (0, 64, 128, 320, 576):
            for other_many in (0, 1, 24, 64, 280):
                slack = source.choice(SLACKS)
                one, first = some_stream(source, one_many, slack)
                other, second = some_stream(source, other_many, slack)
                if one_many + other_many > 600:
                    undefined(self, "many", spliced, one, other)
                    continue
                both = told(self, spliced, one, other)
                self.assertEqual(both, head(one_many + other_many, slack) + one[6:] + other[6:])
                self.assertEqual(unpacked(both), first + second)
                self.assertEqual(slack_of(both), slack)

    def test_bounds_of_many(self):
        one, other = packed((1,) * 320, 0), packed((2,) * 280, 0)
        self.assertEqual(unpacked(spliced(one, other)), (1,) * 320 + (2,) * 280)
        undefined(self, "many", spliced, one, packed((2,) * 281, 0))

    def test_what_is_undefined_in_its_order(self):
        undefined(self, "slack", spliced, packed((1,) * 64, 0), packed((1,), 1))
        undefined(self, "slack", spliced, packed((), 0), packed((), 1))
        undefined(self, "slack", spliced, packed((1,) * 63, 0), packed((1,) * 600, 1))
        undefined(self, "frames", spliced, packed((1,) * 63, 0), packed((1,), 0))
        undefined(self, "frames", spliced, packed((1,) * 65, 9), packed((), 9))
        undefined(self, "frames", spliced, packed((1,) * 600, 0), packed((1,) * 600, 0))
        undefined(self, "many", spliced, packed((1,) * 64, 0), packed((1,) * 600, 0))

    def test_refused_in_their_order(self):
        fine = packed((1, 2, 3), 0)
        torn = fine[:-1] + (fine[-1] ^ 1,)
        refused(self, InvalidBytes, torn, spliced, torn, fine)
        refused(self, InvalidBytes, torn, spliced, fine, torn)
        refused(self, InvalidBytes, None, spliced, None, torn)


class NothingChanges(unittest.TestCase):
    def test_sounds_packed_with_slack_0(self):
        source = random.Random(342)
        for many in MANY:
            sound = some_sound(source, many)
            self.assertEqual(unpacked(packed(sound, 0)), sound)


if __name__ == "__main__":
    unittest.main()
