"""Sounds packed into streams of bytes: frames of 64 samples, each with a check of its own.

A body is read and made as one great integer, so that its fields, which do
not end where bytes do, can be taken out and put in by shifts.
"""

from trackloom.checking import are_integers, check_number, is_integer
from trackloom.clips import HIGHEST, LARGEST, LOWEST, as_sample, check_sound
from trackloom.errors import InvalidBytes, InvalidNumber, Undefined

MANY = 20000
FRAME = 64
MARK = (84, 76)
HEAD = 6

# A code begins with as many bits 1 as its quotient tells; with 40 of them it is an escape, of 60 bits in all.
ESCAPE = 40
WIDEST = 60

# All bits 1, of as many as an escape has, and of those behind its first 40.
WINDOW = 1152921504606846975
PLAIN = 1048575

# By how much the last samples, the latest one first, are foretold to go on in each kind.
WEIGHTS = ((0, 0, 0), (1, 0, 0), (2, -1, 0), (3, -3, 1))

# What eight steps of the check make of each byte that they shift out, so that a whole byte is one step.
CHECKS = (
    0, 4129, 8258, 12387, 16516, 20645, 24774, 28903, 33032, 37161, 41290, 45419, 49548, 53677, 57806, 61935,
    4657, 528, 12915, 8786, 21173, 17044, 29431, 25302, 37689, 33560, 45947, 41818, 54205, 50076, 62463, 58334,
    9314, 13379, 1056, 5121, 25830, 29895, 17572, 21637, 42346, 46411, 34088, 38153, 58862, 62927, 50604, 54669,
    13907, 9842, 5649, 1584, 30423, 26358, 22165, 18100, 46939, 42874, 38681, 34616, 63455, 59390, 55197, 51132,
    18628, 22757, 26758, 30887, 2112, 6241, 10242, 14371, 51660, 55789, 59790, 63919, 35144, 39273, 43274, 47403,
    23285, 19156, 31415, 27286, 6769, 2640, 14899, 10770, 56317, 52188, 64447, 60318, 39801, 35672, 47931, 43802,
    27814, 31879, 19684, 23749, 11298, 15363, 3168, 7233, 60846, 64911, 52716, 56781, 44330, 48395, 36200, 40265,
    32407, 28342, 24277, 20212, 15891, 11826, 7761, 3696, 65439, 61374, 57309, 53244, 48923, 44858, 40793, 36728,
    37256, 33193, 45514, 41451, 53516, 49453, 61774, 57711, 4224, 161, 12482, 8419, 20484, 16421, 28742, 24679,
    33721, 37784, 41979, 46042, 49981, 54044, 58239, 62302, 689, 4752, 8947, 13010, 16949, 21012, 25207, 29270,
    46570, 42443, 38312, 34185, 62830, 58703, 54572, 50445, 13538, 9411, 5280, 1153, 29798, 25671, 21540, 17413,
    42971, 47098, 34713, 38840, 59231, 63358, 50973, 55100, 9939, 14066, 1681, 5808, 26199, 30326, 17941, 22068,
    55628, 51565, 63758, 59695, 39368, 35305, 47498, 43435, 22596, 18533, 30726, 26663, 6336, 2273, 14466, 10403,
    52093, 56156, 60223, 64286, 35833, 39896, 43963, 48026, 19061, 23124, 27191, 31254, 2801, 6864, 10931, 14994,
    64814, 60687, 56684, 52557, 48554, 44427, 40424, 36297, 31782, 27655, 23652, 19525, 15522, 11395, 7392, 3265,
    61215, 65342, 53085, 57212, 44955, 49082, 36825, 40952, 28183, 32310, 20053, 24180, 11923, 16050, 3793, 7920,
)


def are_bytes(value):
    """Whether any value is a tuple of at most 20000 bytes."""
    return are_integers(value, 0, MANY, 0, 255)


def check_of(row):
    """The check of the bytes."""
    if not are_bytes(row):
        raise InvalidBytes(row)
    return check_in(row)


def check_in(row):
    """What check_of tells, of what is known to be bytes, however many."""
    check = 65535
    for byte in row:
        check = (check & 255) << 8 ^ CHECKS[check >> 8 ^ byte]
    return check


def bytes_of(number, many):
    """The number in so many bytes, the greatest first."""
    return tuple([number >> shift & 255 for shift in range(8 * many - 8, -8, -8)])


def number_of(row):
    """The number of which these are the bytes, the greatest first."""
    number = 0
    for byte in row:
        number = number << 8 | byte
    return number


def packed(sound, slack):
    """The stream of the sound, in which no sample differs by more than the slack."""
    check_sound(sound)
    check_number(slack, 0, 255)
    stream = MARK + (slack,) + bytes_of(len(sound), 3)
    for first in range(0, len(sound), FRAME):
        body = shortest_body(sound[first:first + FRAME], slack)
        stream = stream + bytes_of(len(body), 2) + body + bytes_of(check_in(body), 2)
    return stream


def shortest_body(samples, slack):
    """The body of the kind and width with the fewest bits."""
    best = None
    for kind in range(len(WEIGHTS)):
        codes = codes_of(samples, kind, slack)
        size, width = best_width(codes)
        size = size + 16 * len(samples[:kind])
        if best is None or size < best[0]:
            best = (size, kind, width, codes)
    _, kind, width, codes = best
    return body_of(samples[:kind], kind, width, codes)


def codes_of(samples, kind, slack):
    """The codes of all samples behind the first ones, which stand as they are."""
    step = 2 * slack + 1
    one, two, three = WEIGHTS[kind]
    last, older, oldest = latest(samples[:kind])
    codes = []
    for sample in samples[kind:]:
        foretold = one * last + two * older + three * oldest
        rest = (sample - foretold + slack) // step
        codes.append(2 * rest if rest >= 0 else -2 * rest - 1)
        oldest = older
        older = last
        last = as_sample(foretold + rest * step)
    return codes


def latest(samples):
    """The last sample, the one ahead of it and the one ahead of that, 0 where there is none."""
    last = older = oldest = 0
    for sample in samples:
        oldest = older
        older = last
        last = sample
    return last, older, oldest


def best_width(codes):
    """The pair of the fewest bits that the codes have by any width, and the least such width.

    Where no code has a quotient left, more width only makes more bits.
    """
    longest = max([0] + codes).bit_length()
    return min([(size_of(codes, width), width) for width in range(min(longest, 15) + 1)])


def size_of(codes, width):
    """How many bits the codes have by this width."""
    quotients = [code >> width for code in codes if code < ESCAPE << width]
    return sum(quotients) + len(quotients) * (1 + width) + (len(codes) - len(quotients)) * WIDEST


def body_of(first, kind, width, codes):
    """The body of this kind and width, with these first samples and codes."""
    number = 16 * kind + width
    size = 8
    for sample in first:
        number = number << 16 | sample & 65535
        size = size + 16
    for code in codes:
        quotient = code >> width
        if quotient < ESCAPE:
            ones = (1 << quotient) - 1
            number = (number << quotient | ones) << width + 1 | code & (1 << width) - 1
            size = size + quotient + 1 + width
        else:
            number = number << WIDEST | WINDOW - PLAIN | code
            size = size + WIDEST
    filling = -size % 8
    return bytes_of(number << filling, (size + filling) // 8)


def frames_of(value):
    """The triples (many, body, check) of the frames of any value, None if it is no frame row."""
    if not are_bytes(value) or value[:2] != MARK or len(value) < HEAD:
        return None
    many = number_of(value[3:HEAD])
    if many > LARGEST:
        return None
    frames = []
    at = HEAD
    for first in range(0, many, FRAME):
        end = at + 2 + number_of(value[at:at + 2])
        if end < at + 3 or end + 2 > len(value):
            return None
        frames.append((min(many - first, FRAME), value[at + 2:end], value[end:end + 2]))
        at = end + 2
    return frames if at == len(value) else None


def check_frames(stream):
    """The frames of the stream. Raises InvalidBytes unless it is a frame row."""
    frames = frames_of(stream)
    if frames is None:
        raise InvalidBytes(stream)
    return frames


def samples_in(frame, slack):
    """The samples that the frame unpacks to with this slack, None if it is not right."""
    many, body, check = frame
    # No body that is right is longer, and the check of one that is would only take time.
    if len(body) > 1 + many * WIDEST // 8 + 1 or check_in(body) != number_of(check):
        return None
    fields = fields_in(body, many)
    if fields is None:
        return None
    kind, first, codes = fields
    return samples_by(kind, first, codes, slack)


def fields_in(body, many):
    """The triple (kind, first samples, codes) of the body, None if it is none of so many samples."""
    kind = body[0] // 16
    if kind >= len(WEIGHTS):
        return None
    # So many bits 0 stand behind the last one that a code can be looked for there, too.
    number = number_of(body[1:]) << WIDEST
    left = 8 * (len(body) - 1)
    first = []
    for _ in range(min(kind, many)):
        left = left - 16
        first.append(signed(number >> left + WIDEST & 65535))
    codes = []
    for _ in range(many - len(first)):
        if left < 0:
            return None
        code, size = code_in(number >> left & WINDOW, body[0] & 15)
        left = left - size
        codes.append(code)
    if None in codes or not 0 <= left < 8 or number >> WIDEST & (1 << left) - 1 != 0:
        return None
    return kind, first, codes


def signed(number):
    """The sample that stands as this number of 16 bits."""
    return number - 65536 if number > HIGHEST else number


def code_in(window, width):
    """The code with which these 60 bits begin, None if it is an escape that need not be; and its size."""
    quotient = WIDEST - (window ^ WINDOW).bit_length()
    if quotient >= ESCAPE:
        code = window & PLAIN
        return (code if code >> width >= ESCAPE else None), WIDEST
    size = quotient + 1 + width
    return quotient << width | window >> WIDEST - size & (1 << width) - 1, size


def samples_by(kind, first, codes, slack):
    """The samples of a body with these fields, None if there are no such samples."""
    step = 2 * slack + 1
    one, two, three = WEIGHTS[kind]
    last, older, oldest = latest(first)
    samples = list(first)
    for code in codes:
        rest = -(code + 1) // 2 if code & 1 else code // 2
        value = one * last + two * older + three * oldest + rest * step
        if value < LOWEST - slack or value > HIGHEST + slack:
            return None
        oldest = older
        older = last
        last = as_sample(value)
        samples.append(last)
    return samples


def rows_of(stream):
    """The samples of each frame of the stream, None for one that is not right."""
    return [samples_in(frame, stream[2]) for frame in check_frames(stream)]


def unpacked(stream):
    """The sound of the stream."""
    rows = rows_of(stream)
    if None in rows:
        raise InvalidBytes(stream)
    return tuple([sample for row in rows for sample in row])


def slack_of(stream):
    """The slack of the stream."""
    unpacked(stream)
    return stream[2]


def frame_at(stream, number):
    """The samples of the frame with this number."""
    frames = check_frames(stream)
    if not is_integer(number, 0, len(frames) - 1):
        raise InvalidNumber(number)
    samples = samples_in(frames[number], stream[2])
    if samples is None:
        raise Undefined("damage")
    return tuple(samples)


def damaged(stream):
    """The numbers of the frames that are not right."""
    return tuple([number for number, samples in enumerate(rows_of(stream)) if samples is None])


def patched(stream):
    """The sound of the stream, with 0 where frames are not right."""
    frames = check_frames(stream)
    sound = []
    for frame in frames:
        samples = samples_in(frame, stream[2])
        sound.extend([0] * frame[0] if samples is None else samples)
    return tuple(sound)


def spliced(one, other):
    """The stream of the sounds of both, one behind the other."""
    first = unpacked(one)
    second = unpacked(other)
    many = len(first) + len(second)
    if one[2] != other[2]:
        raise Undefined("slack")
    if len(first) % FRAME != 0:
        raise Undefined("frames")
    if many > LARGEST:
        raise Undefined("many")
    return one[:3] + bytes_of(many, 3) + one[HEAD:] + other[HEAD:]
