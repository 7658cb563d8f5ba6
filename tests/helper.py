"""What several tests need: strange things, refusals of just one class, what is known of tongues, ways to cut."""

from collections import namedtuple
from functools import lru_cache
from itertools import combinations, product

from bytetongue.errors import NoSign
from bytetongue.lead import LeadTongue
from bytetongue.pairs import PairTongue
from bytetongue.shifts import ShiftTongue
from bytetongue.tables import TableTongue
from bytetongue.tongues import Tongue
from bytetongue.ways import Leave, Put, See, Way

BORDERS = (0, 127, 128, 255, 256, 2047, 2048, 4095, 4096, 55295, 55296, 56319, 56320, 57343, 57344,
           61183, 61184, 61439, 61440, 65279, 65533, 65535, 65536, 66559, 66560, 262143, 262144,
           524288, 1048575, 1048576, 1114111)


class Equal:
    """A thing that says of everything that they are equal."""

    def __eq__(self, other):
        return True

    def __hash__(self):
        return 0


def no_numbers():
    """Things that are no numbers, each list and dict made anew."""
    return [True, False, None, "", "A", "65", "high", b"", b"A", 65.0, 0.5, 65 + 0j, [], [65], [[65]], (), (65,),
            {}, {65: 65}, {65}, range(3), object(), int, len, Equal()]


def not_signs():
    """Things that are no signs, numbers and others."""
    numbers = [-1, -65, -10 ** 60, 55296, 55297, 56000, 56318, 56319, 56320, 57000, 57342, 57343,
               61184, 61185, 61300, 61438, 61439, 1114112, 1114113, 2 ** 31, 10 ** 60, 10 ** 5000]
    return numbers + no_numbers()


def not_orders():
    """Things that are neither of the two words."""
    words = ["", "High", "HIGH", "Low", "LOW", "hig", "highs", "lo", "high ", " low", "high low", "highlow", "w"]
    others = [b"high", b"low", ["high"], ["low"], ("high",), ("high", "low"), {"high": 1}, {"low"}, 0, 1, -1, 10 ** 60]
    return words + others + [thing for thing in no_numbers() if thing.__class__ is not str]


def is_seen_number(number):
    """The document's words, told otherwise than the program tells them."""
    return number in range(0, 55296) or number in range(57344, 1114112)


def is_sign_number(number):
    return is_seen_number(number) and number // 256 != 239


def near(numbers):
    """The numbers and those next to them, rising."""
    return sorted({number + step for number in numbers for step in (-2, -1, 0, 1, 2)})


@lru_cache(maxsize=None)
def all_signs():
    return tuple(number for number in range(1114112) if is_sign_number(number))


@lru_cache(maxsize=None)
def many_signs():
    """All signs of one unit, those near each border, and some of the others."""
    numbers = set(range(70000)) | set(near(BORDERS)) | set(near(range(65536, 1114112, 4096)))
    numbers |= set(range(70000, 1114112, 1013))
    return tuple(sorted(filter(is_sign_number, numbers)))


def same_thing(one, other):
    """Whether a thing was told as it is: 1 is not True, and 65.0 is not 65."""
    return one is other or (type(one) is type(other) and one == other)


def refusal(case, kind, call, *handed, **named):
    """The error of a call, which is of this class and of none other."""
    with case.assertRaises(kind) as caught:
        call(*handed, **named)
    case.assertIs(type(caught.exception), kind)
    return caught.exception


def check_no_sign(case, call, thing, at, *handed, **named):
    """The call is refused with NoSign, for this thing at this place."""
    error = refusal(case, NoSign, call, *handed, **named)
    case.assertTrue(same_thing(error.sign, thing), (error.sign.__class__, thing.__class__))
    case.assertTrue(same_thing(error.at, at), (error.at, at))


class Known:
    """A tongue of one page as Python's own codecs know it: rows are bytes here."""

    pages = (0,)

    def __init__(self, codec, unit):
        self.codec = codec
        self.unit = unit

    def spelled(self, sign, page=0):
        """The sign's row and the page to which it goes."""
        return (chr(sign).encode(self.codec), 0)

    def row(self, sign):
        return self.spelled(sign)[0]

    def whole(self, row, page=0):
        """The sign whose row this is and the page to which it goes, or None."""
        try:
            letters = bytes(row).decode(self.codec)
        except UnicodeDecodeError:
            return None
        return (ord(letters), 0) if len(letters) == 1 and is_sign_number(ord(letters)) else None

    @lru_cache(maxsize=None)
    def beginnings(self, page=0):
        """All beginnings of signs' rows, odd bytes too, that are not whole."""
        found = {b""}
        for sign in all_signs():
            row = self.row(sign)
            for size in range(1, len(row)):
                found.add(row[:size])
        return found

    @lru_cache(maxsize=None)
    def begun(self, page=0):
        """The beginnings of whole units, the shortest first."""
        return by_size([row for row in self.beginnings() if len(row) % self.unit == 0])

    @lru_cache(maxsize=None)
    def courses(self):
        """For each spot a number, alike where two of them go alike."""
        behind = {row: {} for row in self.begun()}
        for sign in all_signs():
            row = self.row(sign)
            behind[row[:-self.unit]][row[-self.unit:]] = "sign"
        numbers = {}
        found = {}
        for row in reversed(self.begun()):
            found[0, row] = numbers.setdefault(frozenset(behind[row].items()), len(numbers))
            if row:
                behind[row[:-self.unit]][row[-self.unit:]] = found[0, row]
        return found

    def looked(self, row, page=0):
        """What a begun row is."""
        found = self.whole(row, page)
        if found is not None:
            return ("sign",) + found
        return ("more" if bytes(row) in self.beginnings(page) else "none", None, page)


class Listed(Known):
    """A tongue of unit 1 known by its rows: for each page a dict from the row, as bytes, to the sign and its page."""

    def __init__(self, rows):
        self.unit = 1
        self.rows = rows
        self.pages = tuple(range(len(rows)))

    def spelled(self, sign, page=0):
        for row, (other, goal) in self.rows[page].items():
            if other == sign:
                return (row, goal)
        return None

    def whole(self, row, page=0):
        return self.rows[page].get(bytes(row))

    def signs(self):
        return sorted(sign for sign, goal in self.rows[0].values())

    def most(self):
        return max([len(row) for rows in self.rows for row in rows], default=0)

    @lru_cache(maxsize=None)
    def beginnings(self, page=0):
        return {row[:size] for row in self.rows[page] for size in range(len(row))}

    @lru_cache(maxsize=None)
    def begun(self, page=0):
        return by_size(self.beginnings(page))

    def courses(self):
        """For each spot its page and all that makes a sign's row of it, with the page to which that sign goes."""
        found = {}
        for page in self.pages:
            for begun in self.beginnings(page):
                behind = [(row[len(begun):], goal) for row, (sign, goal) in self.rows[page].items()
                          if row.startswith(begun)]
                found[page, begun] = (page, frozenset(behind))
        return found


def by_size(rows):
    """The rows, the shortest first."""
    return sorted(rows, key=lambda row: (len(row), row))


def shift_known(first, second):
    """The shift tongue of these two lists."""
    lists = (first, second)
    rows = []
    for page, shift in ((0, 255), (1, 254)):
        own = {bytes([place]): (sign, page) for place, sign in enumerate(lists[page])}
        others = {bytes([shift, place]): (sign, 1 - page) for place, sign in enumerate(lists[1 - page])
                  if sign not in lists[page]}
        rows.append({**own, **others})
    return Listed(rows)


def table_known(rows):
    """The table tongue of these tuples."""
    return Listed([{bytes(row): (sign, 0) for sign, row in rows}])


LEAD = Known("utf-8", 1)
HIGH = Known("utf-16-be", 2)
LOW = Known("utf-16-le", 2)
NOTHING = Listed([{}])


def check_spelled(case, tongue, known, signs, page=0):
    for sign in signs:
        row, goal = known.spelled(sign, page)
        told = tongue.spell(sign, page)
        if told != (list(row), goal):
            case.fail((sign, page, told))


def check_looked(case, tongue, known, rows, page=0):
    for row in rows:
        told = tongue.look(list(row), page)
        if told != known.looked(row, page):
            case.fail((list(row), page, told))


def check_filled(case, tongue, known, rows, page=0):
    for row in rows:
        told = tongue.fill(list(row), page)
        if told is None:
            case.assertIsNone(known.whole(row, page), list(row))
            case.assertFalse(bytes(row) in known.beginnings(page), list(row))
            continue
        case.assertIs(type(told), list)
        case.assertIsNotNone(known.whole(bytes(row) + bytes(told), page), (list(row), page, told))
        if known.whole(row, page) is not None:
            case.assertEqual(told, [], list(row))


def check_spots(case, tongue, known):
    told = tongue.spots()
    case.assertIs(type(told), list)
    courses = known.courses()
    met = []
    for spot in told:
        case.assertIs(type(spot), tuple)
        case.assertEqual(len(spot), 2)
        case.assertIs(type(spot[1]), list)
        case.assertTrue((spot[0], bytes(spot[1])) in courses, spot)
        case.assertNotIn(spot, met)
        met.append(spot)
    case.assertEqual({courses[page, bytes(row)] for page, row in told}, set(courses.values()))


def with_a_byte(beginnings):
    return [list(row) + [byte] for row in beginnings for byte in range(256)]


def check_page_told_or_not(case, tongue, sign, rows):
    case.assertEqual(tongue.spell(sign, 0), tongue.spell(sign))
    case.assertEqual(tongue.spell(sign=sign, page=0), tongue.spell(sign))
    for row in rows:
        case.assertEqual(tongue.look(list(row), 0), tongue.look(list(row)))
        case.assertEqual(tongue.look(begun=list(row), page=0), tongue.look(list(row)))
        case.assertEqual(tongue.fill(list(row), 0), tongue.fill(list(row)))
        case.assertEqual(tongue.fill(row=list(row), page=0), tongue.fill(list(row)))


def spoil(things):
    """Changes a told list through and through."""
    for thing in things:
        if isinstance(thing, (list, tuple)):
            spoil(thing)
    if isinstance(things, list):
        things[:] = [-7, things[:], -8]


def check_told_anew(case, asks):
    """What each of these calls tells may be changed, and the same asked again is answered alike."""
    for ask in asks:
        first = repr(ask())
        spoil(ask() or [])
        case.assertEqual(repr(ask()), first)


def check_left_alone(case, tongue, signs, begun, rows, page=0):
    """What is handed in stays, and what is told may be changed without any trace."""
    asks = [lambda sign=sign: tongue.spell(sign, page) for sign in signs]
    asks += [lambda row=row: tongue.fill(row, page) for row in rows] + [tongue.spots]
    check_told_anew(case, asks)
    for call, handed in [(tongue.look, row) for row in begun] + [(tongue.fill, row) for row in rows]:
        kept = list(handed)
        first = repr(call(handed, page))
        case.assertEqual(handed, kept)
        case.assertEqual(repr(call(handed, page)), first)


def ways_to_cut(things):
    """All ways to cut a list into pieces, each with and without pieces of nothing; the list of nothing: none to two."""
    if not things:
        return [[], [[]], [[], []]]
    ways = []
    for many in range(len(things)):
        for places in combinations(range(1, len(things)), many):
            borders = (0,) + places + (len(things),)
            pieces = [things[first:last] for first, last in zip(borders, borders[1:])]
            ways.append(pieces)
            ways.append([[]] + [each for piece in pieces for each in (list(piece), [])])
    return ways


def few_ways_to_cut(things):
    """The whole, its things one by one, and each way to cut it in two."""
    ways = [[things], [[thing] for thing in things]]
    return ways + [[things[:place], things[place:]] for place in range(len(things) + 1)]


class Sample:
    """A tongue, what is known of it, and some bytes of which its rows and rows that are none are made."""

    def __init__(self, tongue, known, some, size):
        self.tongue = tongue
        self.known = known
        self.some = some
        self.size = size

    def rows(self, size=None):
        """All rows of these bytes up to a size."""
        return [list(row) for many in range((size or self.size) + 1) for row in product(self.some, repeat=many)]

    @lru_cache(maxsize=None)
    def sign_rows(self, page):
        """The rows of these bytes that are a sign's at the page."""
        found = {}
        for many in range(1, 7 if len(self.some) < 5 else 5):
            for row in product(self.some, repeat=many):
                if self.known.whole(bytes(row), page) is not None:
                    found[bytes(row)] = self.known.whole(bytes(row), page)
        return found

    @lru_cache(maxsize=None)
    def texts(self):
        """Each row of these bytes, up to the size, that a text has: that text, and the page to which it goes."""
        found = {b"": ((), 0)}
        new = dict(found)
        while new:
            longer = {}
            for row, (text, page) in new.items():
                for more, (sign, goal) in self.sign_rows(page).items():
                    if len(row) + len(more) <= self.size:
                        longer[row + more] = (text + (sign,), goal)
            found.update(longer)
            new = longer
        return found

    def goes_on(self, row):
        """Whether it is a beginning of some text's row: a text's row, and the beginning of a sign's row behind it."""
        for size in range(len(row) + 1):
            if bytes(row[:size]) in self.texts():
                page = self.texts()[bytes(row[:size])][1]
                if size == len(row) or bytes(row[size:]) in self.known.beginnings(page):
                    return True
        return False


SHIFT_LISTS = (([65, 66], [66, 67]), ([65], [66]), ([], [65, 66]), ([65, 66], []), ([65, 66, 67], [66]),
               ([66], [65, 66]), ([65, 66], [66, 65]), ([], []))
TABLES = (
    [(65, [1]), (66, [2, 3])], [(65, [1, 2]), (66, [2, 1])],
    [(65, [1]), (66, [2, 1]), (67, [2, 2, 1]), (68, [2, 2, 2])],
    [(65, [1, 2, 3, 1, 2, 3]), (66, [1, 2, 3, 1, 1]), (67, [3])], [],
)


@lru_cache(maxsize=None)
def samples():
    """Samples of each tongue."""
    found = [Sample(LeadTongue(), LEAD, (65, 128, 144, 160, 191, 195, 225, 240), 4),
             Sample(LeadTongue(), LEAD, (0, 143, 187, 188, 237, 238, 244), 4),
             Sample(PairTongue(), HIGH, (0, 65, 216, 220, 239), 5),
             Sample(PairTongue("low"), LOW, (0, 65, 219, 223, 239), 5),
             Sample(Tongue(), NOTHING, (0, 65, 255), 3)]
    found += [Sample(ShiftTongue(first, second), shift_known(first, second), (0, 1, 2, 254, 255), 5)
              for first, second in SHIFT_LISTS]
    found += [Sample(TableTongue(rows), table_known(rows), (1, 2, 3, 4), 6) for rows in TABLES]
    return tuple(found)


def known_written(known, text):
    """The text's row, and the page to which it goes."""
    row = b""
    page = 0
    for sign in text:
        more, page = known.spelled(sign, page)
        row += more
    return (list(row), page)


# Behind so many bytes those from first to last were told as a sign, or passed as a fault of this kind.
Met = namedtuple("Met", "size first last kind sign page")


def known_course(known, row):
    """All signs and faults that are met along a row by who goes on, but a short fault at its end."""
    course = []
    first = 0
    page = 0
    stop = known.unit
    while stop <= len(row):
        kind, sign, goal = known.looked(bytes(row[first:stop]), page)
        last = stop
        if kind == "more":
            last = first
        elif kind == "none":
            kind = "broken" if stop - first > known.unit else "strange"
            last = stop - known.unit if kind == "broken" else stop
        if kind != "more":
            page = goal
            course.append(Met(stop, first, last, kind, sign, page))
        first = last
        if kind != "broken":
            stop += known.unit
    return course


def with_short(course, row):
    """The course of a row, and the short fault at its end, if there is one."""
    first = course[-1].last if course else 0
    page = course[-1].page if course else 0
    if first == len(row):
        return course
    return course + [Met(len(row), first, len(row), "short", None, page)]


# Each way, and what it tells of some bytes.
WAYS = ((Leave(), lambda row: []), (Put(), lambda row: [65533]), (See(), lambda row: [61184 + byte for byte in row]),
        (Put(66), lambda row: [66]), (Way(), lambda row: []))


def known_told(course, row, tells):
    """What a reader tells along a course, with a way of which it is known what it tells."""
    told = []
    for met in course:
        told += [met.sign] if met.kind == "sign" else tells(row[met.first:met.last])
    return told


@lru_cache(maxsize=None)
def small_codes():
    """All lists of rows of the bytes 1 and 2, up to three bytes each, of which none begins another one."""

    def codes(row):
        """The lists of such rows, all of which begin so."""
        if len(row) == 3:
            return [[], [row]]
        both = [one + other for one in codes(row + [1]) for other in codes(row + [2])]
        return [[row]] + both if row else both

    return codes([])


@lru_cache(maxsize=None)
def known_spots(known):
    """All spots of a tongue known by its rows; of another one the first and the last of those that go alike."""
    courses = known.courses()
    if isinstance(known, Listed):
        return tuple(courses)
    spots = list(courses)
    ends = {courses[spot]: spot for spot in reversed(spots)}, {courses[spot]: spot for spot in spots}
    return tuple(dict.fromkeys([spot for some in ends for spot in some.values()]))


def known_track(known, spot, row):
    """The spots ahead of a row and behind each unit of it, begun at one; or None where the row does not go on."""
    track = [spot]
    for at in range(0, len(row), known.unit):
        page, begun = track[-1]
        begun += bytes(row[at:at + known.unit])
        kind, sign, goal = known.looked(begun, page)
        if kind == "none":
            return None
        track.append((goal, b"" if kind == "sign" else begun))
    return track
