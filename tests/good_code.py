"""Code that breaks no rule of ../shared/LANGUAGE.md, with much of what the rules let."""

GOOD = [
    '''from heapq import heappush, heappop
def run(xs):
    queue = []
    heappush(queue, (1, 2))
    return heappop(queue)
''',
    '''from math import gcd, isqrt
def run(xs):
    return gcd(isqrt(9), len(xs))
''',
    '''from itertools import product, combinations
def run(xs):
    for a, b in product(xs, xs):
        pass
    return [a for a, b in combinations(xs, 2)], list(product(range(3), zip(xs, xs)))
''',
    '''from itertools import chain, pairwise, zip_longest, islice, accumulate
def run(xs):
    for a, b in pairwise(xs):
        pass
    for k, x in enumerate(chain(*xs)):
        pass
    return (sum(chain.from_iterable(xs)), list(zip_longest(xs, xs, fillvalue=0)),
        list(islice(xs, 1, 4)), list(accumulate(xs, max)))
''',
    '''from collections import defaultdict
def run(xs):
    d = defaultdict(list)
    for x in xs:
        d[x].append(x)
    return {k: v for k, v in d.items()}, sorted(d), dict(d), 'a' in d, d.get(1, 0), len(d)
''',
    '''from collections import deque
def run(xs):
    queue = deque(xs)
    queue.append(1)
    queue.rotate(1)
    while queue:
        queue.popleft()
    return queue
''',
    '''from __future__ import annotations
def run(a: object, b: float) -> str | None:
    return None
''',
    '''NORTH = 0
WAYS = {'a': (1, 2), 'b': (-1, 3)}
TEXT = 'ab' * 3
SIZE = (NORTH + 1) * 2 ** 3
LOW = -5
DATA = b'ab'
EMPTY = None
LIST = [1, 2, (3, 4)]
''',
    '''def step(x):
    return x
ACTIONS = {'a': step}
def run(word, index):
    action = ACTIONS[word]
    return action(index)
''',
    '''LIMIT = 4
def run(a, b=LIMIT, c=(1, -2), *rest, d=LIMIT * 2, **more):
    return a
''',
    '''def at(row, col, /, by=1):
    return row
''',
    '''def area(width, *, height=2, scale):
    return width
def run():
    return area(3, scale=2)
''',
    '''def run(xs):
    def low(x, y=-1):
        return x
    return sorted(xs, key=lambda x: (-x, low(x)))
''',
    '''class Box:
    SIZE = 3
    RATES = {'a': 1}
    def __init__(self, rows):
        self.rows = list(rows)
    def __len__(self):
        return len(self.rows)
    def __iter__(self):
        return iter(self.rows)
    def __repr__(self):
        return f'{self.rows}'
    def __eq__(self, other):
        return isinstance(other, Box) and self.rows == other.rows
    def low(self):
        return self.SIZE + self.RATES['a']
''',
    '''class Box:
    def __init__(self):
        self.n = 1
        self._sum = None
    @property
    def many(self):
        return self.n
    @many.setter
    def many(self, value):
        self.n = value
    @staticmethod
    def told(x):
        return x
    @classmethod
    def made(cls):
        return cls()
    @property
    def total(self):
        if self._sum is None:
            self._sum = self.n + 1
        return self._sum
''',
    '''class A:
    def __init__(self, n):
        self.n = n
    def low(self):
        return self.n
class B(A):
    def __init__(self, n):
        super().__init__(n)
    def low(self):
        return super().low()
class C(A):
    def __init__(self):
        A.__init__(self, 2)
''',
    '''class P:
    def __init__(self, n):
        self.n = n
    def __lt__(self, other):
        if not isinstance(other, P):
            return NotImplemented
        return self.n < other.n
    def __eq__(self, other):
        if not isinstance(other, P):
            return NotImplemented
        return self.n == other.n
    def __add__(self, other):
        return P(self.n + other.n)
    def __bool__(self):
        return self.n > 0
    def __neg__(self):
        return P(-self.n)
''',
    '''class G:
    def __init__(self):
        self.rows = {}
    def __iter__(self):
        raise TypeError('no')
    def __getitem__(self, at):
        return self.rows[at]
    def __setitem__(self, at, worth):
        self.rows[at] = worth
    def __contains__(self, x):
        return x in self.rows
    def __call__(self, x, by=1):
        self.rows[x] = by
''',
    '''class S:
    __slots__ = ('x', '_y')
    def __init__(self):
        self.x = 1
        self._y = 2
''',
    '''class Ctx:
    def __init__(self):
        self.n = 0
    def __enter__(self):
        return self
    def __exit__(self, kind, value, trace):
        self.n = 0
def run():
    with Ctx() as held:
        return held.n
''',
    '''COUNT = 0
def run():
    global COUNT
    COUNT += 1
    return COUNT
''',
    '''COUNT = 0
def run():
    'Doc.'
    global COUNT
    COUNT = 1
''',
    '''def run(xs, d):
    a = b = 1
    xs[0] += 1
    xs[1:3] = [a, b]
    first, *rest = xs
    a, (b, *c) = rest
    del xs[0], a
    return first, b, c
''',
    '''def run(xs, d):
    for name, *points in xs:
        pass
    else:
        pass
    while xs:
        break
    assert xs, 'no'
    return [*xs, 1], (*xs, *d), {**d, 'a': 1}
''',
    '''def run():
    count = 0
    def low():
        nonlocal count
        count += 1
    low()
    return count
''',
    '''def run(xs, d):
    match xs:
        case 1 | -2:
            return 1
        case [a, b, *rest]:
            return rest
        case (a, _):
            return a
        case str() as word:
            return word
        case None | True:
            return 2
        case 'a' if len(d) > 1:
            return 3
        case _:
            return 4
''',
    '''def run(xs, d):
    k = 0
    try:
        k = xs[0]
    except KeyError:
        k = 1
    except ZeroDivisionError:
        raise
    else:
        k = 3
    finally:
        d.held = k
        if k is None:
            d.held = [k, 1]
    return k
class D:
    def __init__(self):
        self.held = 1
''',
    '''def run(xs, d):
    try:
        return int(xs)
    except ValueError:
        return None
''',
    '''def run(xs, d):
    try:
        return xs.index(d), xs[3], xs.split(',')[0] + 'a'
    except IndexError:
        return None
    except ValueError as e:
        raise KeyError('a') from e
''',
    '''def run(xs, d):
    return f'{len(xs):>5}', f'{xs!r}', f'{d:*^9}', f'{d:05d}', f'{d:,}', f'{d}'
''',
    '''def run(xs, d):
    width = max([len(x) for x in xs])
    return [f'{x:<{width}}' for x in xs], '{} of {}'.format(xs, d), '{0}{0}'.format(xs)
''',
    '''def run(xs, d):
    if (k := len(xs)) > 3:
        return k
    while (m := xs.pop()):
        pass
    return [y for x in xs if (y := x)]
''',
    '''def run(xs, d):
    return (xs[::-1], xs[1:], -xs, ~xs, not xs, xs if d else 1, 1 < xs <= 3, 2 ** 64,
        [2 ** k for k in range(64)])
''',
    '''def run(xs, d):
    return max(*xs), min(*xs, key=len), [run(*row) for row in xs], run(**d), list(zip(*xs))
''',
    '''def run(xs, d):
    return (any(x for x in xs), ','.join(str(x) for x in xs), sum(x for x in xs),
        sorted((x for x in xs), key=len))
''',
    '''def run(xs, d):
    it = iter(xs)
    first = next(it, None)
    for x in it:
        pass
    return first, next(iter(xs), None), next((x for x in xs if x > 1), 0)
''',
    '''def run(xs, d):
    it = iter(xs)
    return list(zip(it, it))
''',
    '''def run(xs, d):
    it = iter(xs)
    try:
        x = next(it)
    except StopIteration:
        return None
    return x
''',
    '''class B:
    def __init__(self):
        self.n = 1
def run(b):
    setattr(b, 'n', 3)
    return getattr(b, 'n', 0), hasattr(b, 'n'), type(b) is B, type(b).__name__, b.__class__.__name__
''',
    '''def run(xs, d):
    r = range(3)
    z = zip(xs, d)
    v = d.items()
    for a, b in z:
        pass
    return len(r), 1 in r, r[1], list(v), [k for k, _ in v]
''',
    '''def steps(rows):
    for row in rows:
        yield row
    yield from rows
    if not rows:
        return
def run(rows):
    it = steps(rows)
    for x in it:
        pass
    total = [x for x in steps(rows)]
    return list(steps(rows)), sorted(steps(rows)), any(steps(rows)), total
''',
    '''def run(xs, d):
    for k in list(d):
        del d[k]
    for k, x in enumerate(list(xs)):
        xs[k] = x + 1
    for x in xs:
        d.setdefault(x, []).append(x)
    return list(map(str, xs)), sum(map(len, xs)), [a for a in map(lambda x: x + 1, xs)]
''',
    '''def run(xs, d):
    seen = set()
    for x in xs:
        if x not in seen:
            seen.add(x)
    other = {x for x in d}
    if seen and not other:
        seen.discard(1)
    return sorted(seen), len(other), seen == other, sorted(seen, reverse=True)
''',
    '''def run(xs, d):
    return (len(set(xs)), sorted(set(xs) - set(d)), xs in {1, 2, 3}, set(xs) == set(d),
        sorted({x for x in xs}), len({1, 2}))
''',
    '''def run(xs, d):
    xs.sort()
    xs.sort(reverse=True, key=lambda x: (x[0], -x[1]))
    return (xs.count(1), 'a,b'.split(','), xs.get('a', 1), 'ab'.translate({97: 'b'}),
        'ab'.translate(str.maketrans('ab', 'xy')), xs.title())
''',
    '''class B:
    def __init__(self):
        self.rows = []
        self.count = 3
        self.title = 'a'
    def append(self, x):
        self.rows.append(x)
    def find(self, word, at=0):
        return self.rows[at]
    def low(self):
        f = self.low
        return f(1), self.find(2, at=1), sorted(self.rows, key=self.low)
''',
    '''class Lost(ValueError):
    def __init__(self, at):
        self.at = at
class Gone(Lost):
    pass
def low(x):
    raise Gone(x)
def run(x):
    try:
        return low(x)
    except Lost as e:
        return e.at
''',
    '''def run(a: int, b: list[int] = None, c: dict[str, tuple[int, ...]] = None) -> bool:
    x: int = 3
    return x is None and a is not True
''',
    '''def run(xs, d):
    return (pow(3, len(xs), 7), int('12', 8), sum(xs, start=1), list(enumerate(xs, start=1)),
        min(xs, default=0), list(zip(xs, d, strict=True)))
''',
    '''def run(xs, d):
    return ('a' in xs, b'a' + b'\\x00', xs.decode('ascii'), 'a'.encode(), divmod(7, 2),
        [x for row in xs for x in row if x])
''',
    '''def run(xs, d):
    return [lambda x: 1,
            lambda y: 2], xs == 1, abs(-3), isinstance(xs, (int, str)), isinstance(d, bool)
''',
    '''def run(xs, d):
    n = 0
    n += len(xs)
    n -= 1
    n *= 2
    n //= 3
    n |= 1
    return n
''',
    '''def run(xs, d):
    return (list(reversed(xs)), [x for x in reversed(range(3))], len(d.items()), 'a' in d.keys(),
        max(d.values()), max(d.values(), default=0), ','.join(d.keys()))
''',
    '''class B:
    def __init__(self, n):
        self.n = n
def run(b):
    match b:
        case B(n=1):
            return 1
        case B():
            return 2
        case _:
            return 3
''',
]
