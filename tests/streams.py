"""What the document says of checks and streams, told again bit by bit, over texts of 0 and 1."""

ESCAPES = 40


def check_bit_by_bit(row):
    number = 65535
    for byte in row:
        for bit in f"{byte:08b}":
            if number >= 32768:
                number = 2 * number - 65536
                turned = bit == "0"
            else:
                number = 2 * number
                turned = bit == "1"
            if turned:
                number ^= 4129
    return number


def in_bytes(number, many):
    return tuple(number.to_bytes(many, "big"))


def foretold(kind, y):
    if kind == 0:
        return 0
    if kind == 1:
        return y[-1]
    if kind == 2:
        return 2 * y[-1] - y[-2]
    return 3 * y[-1] - 3 * y[-2] + y[-3]


def as_sixteen(sample):
    return f"{sample if sample >= 0 else sample + 65536:016b}"


def as_code(u, width):
    q = u // 2 ** width
    if q < ESCAPES:
        return "1" * q + "0" + (f"{u % 2 ** width:0{width}b}" if width else "")
    return "1" * 40 + f"{u:020b}"


def bits_of(samples, kind, width, slack):
    """The bits behind the first byte of a body, ahead of the filling, and the samples that are unpacked for them."""
    y = list(samples[:kind])
    bits = "".join(as_sixteen(sample) for sample in y)
    for x in samples[kind:]:
        p = foretold(kind, y)
        e = (x - p + slack) // (2 * slack + 1)
        y.append(max(-32768, min(32767, p + e * (2 * slack + 1))))
        bits += as_code(2 * e if e >= 0 else -2 * e - 1, width)
    return bits, tuple(y)


def samples_bit_by_bit(body, many, slack):
    """What a body of so many samples is unpacked to, None if none is built so: its codes are read, and written again."""
    kind, width = divmod(body[0], 16)
    text = "".join(f"{byte:08b}" for byte in body[1:])
    first = min(kind, many)
    if kind > 3 or len(text) < 16 * first:
        return None
    y = [int(text[16 * at:16 * at + 16], 2) for at in range(first)]
    y = [sample - 65536 if sample >= 32768 else sample for sample in y]
    bits = text[:16 * first]
    for _ in range(many - first):
        left = text[len(bits):]
        q = len(left) - len(left.lstrip("1"))
        code = left[:60] if q >= 40 else left[:q + 1 + width]
        u = int("0" + code[40:], 2) if q >= 40 else q * 2 ** width + int("0" + code[q + 1:], 2)
        value = foretold(kind, y) + (u // 2 if u % 2 == 0 else -(u + 1) // 2) * (2 * slack + 1)
        if code != as_code(u, width) or not -32768 - slack <= value <= 32767 + slack:
            return None
        y.append(max(-32768, min(32767, value)))
        bits += code
    return tuple(y) if body_of_bits(kind, width, bits) == tuple(body) else None


def body_of_bits(kind, width, bits):
    bits += "0" * (-len(bits) % 8)
    return (16 * kind + width,) + tuple(int(bits[at:at + 8], 2) for at in range(0, len(bits), 8))


def frame_of_body(body):
    return in_bytes(len(body), 2) + tuple(body) + in_bytes(check_bit_by_bit(body), 2)


def head(many, slack):
    return (84, 76, slack) + in_bytes(many, 3)


def pieces(sound):
    return [sound[at:at + 64] for at in range(0, len(sound), 64)]


def stream_by(sound, slack, kinds_and_widths):
    """The stream with these kinds and widths, and the sound that it unpacks to."""
    stream, unpacked = head(len(sound), slack), ()
    for samples, (kind, width) in zip(pieces(sound), kinds_and_widths, strict=True):
        bits, y = bits_of(samples, kind, width, slack)
        stream += frame_of_body(body_of_bits(kind, width, bits))
        unpacked += y
    return stream, unpacked


def shortest(sound, slack):
    """For each frame the kind and width with the fewest bits, of all that are tried."""
    return [
        min((len(bits_of(samples, kind, width, slack)[0]), kind, width) for kind in range(4) for width in range(16))[1:]
        for samples in pieces(sound)
    ]


def frame_places(stream):
    """Where the body of each frame begins, and where it ends."""
    at, places = 6, []
    while at < len(stream):
        many = 256 * stream[at] + stream[at + 1]
        places.append((at + 2, at + 2 + many))
        at += 4 + many
    return places


def mended(stream):
    """The frame row with all checks made right for the bodies that it has."""
    row = stream[:6]
    for first, last in frame_places(stream):
        row += frame_of_body(stream[first:last])
    return row
