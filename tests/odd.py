"""Things of every kind but text, for the points that say "of any thing"."""


class Thorny:
    """Whatever is asked of it but its kind goes wrong."""

    __hash__ = None

    def __eq__(self, other):
        raise RuntimeError("compared")

    def __len__(self):
        raise RuntimeError("measured")

    def __bool__(self):
        raise RuntimeError("asked whether it is true")

    def __iter__(self):
        raise RuntimeError("walked")

    def __getitem__(self, key):
        raise RuntimeError("indexed")

    def __contains__(self, item):
        raise RuntimeError("searched")

    def __str__(self):
        raise RuntimeError("told as a text")

    def __repr__(self):
        raise RuntimeError("shown")


def no_texts():
    return [
        None, True, False, 0, 1, -1, 10 ** 30, 1.5, float("nan"), 2j,
        b"", b"a", b"rain", bytearray(b"rain"), memoryview(b"rain"),
        [], ["a"], ["rain"], ["r", "a"], (), ("a",), ("", "rain", ()),
        {}, {"a": 1}, {"rain": "rain"}, set(), {"a"}, frozenset({"a"}),
        range(3), iter("a"), (sign for sign in "rain"), slice(1), ..., NotImplemented,
        object(), object, str, len, "a".upper, lambda: "a", ValueError("a"), Thorny(), Thorny,
    ]
