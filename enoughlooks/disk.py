"""A disk that can lose power between deeds and their keeping."""

from enoughlooks.errors import PowerCut, Wrong

PART_SIGNS = "abcdefghijklmnopqrstuvwxyz0123456789-"
MOST_PART_SIGNS = 30


def is_text(thing):
    """Whether a value is a TEXT."""
    # Of ASCII just the signs from the blank to the tilde are printable.
    return isinstance(thing, str) and thing.isascii() and thing.replace("\n", "").isprintable()


def is_files(thing):
    """Whether a value is FILES."""
    return isinstance(thing, dict) and all([_is_path(path) and is_text(thing[path]) for path in thing])


def done(files, deeds):
    """The FILES behind DEEDS."""
    now = {path: files[path] for path in files}
    for deed in deeds:
        if deed[0] == "put":
            now[deed[1]] = deed[2]
        elif deed[0] == "drop":
            now.pop(deed[1], None)
        elif deed[0] == "move" and deed[1] in now:
            text = now.pop(deed[1])
            now[deed[2]] = text
    return {path: now[path] for path in sorted(now)}


def cut(files, deeds, many, fates):
    """The FILES that are left if power fails when the first many DEEDS were begun."""
    begun = list(deeds[:many])
    kept = max([index + 1 for index, deed in enumerate(begun) if deed[0] == "sync"], default=0)
    left = begun[:kept]
    for index, deed in enumerate(begun[kept:]):
        fate = fates[index] if index < len(fates) else "done"
        left.extend(_ended(deed, fate))
    return done(files, left)


class Disk:
    """FILES that change by DEEDS, while there is power."""

    def __init__(self, files):
        if not is_files(files):
            raise Wrong(0)
        self._kept = done(files, [])
        self._stands = self._kept
        self._begun = []
        self._powered = True
        self._left = None
        self._fates = ()

    def __eq__(self, other):
        return isinstance(other, Disk) and self._powered == other._powered and self._stands == other._stands

    def files(self):
        """What stands on the disk."""
        return done(self._stands, [])

    def do(self, deeds):
        """Does DEEDS, one after the other."""
        if not self._powered:
            raise PowerCut()
        for deed in deeds:
            if self._left == 0:
                self._fail()
                raise PowerCut()
            self._begin(deed)

    def fuse(self, many, fates):
        """Lets power fail ahead of the deed behind so many more."""
        self._left = many
        self._fates = fates

    def power(self):
        """Brings power back, and keeps what stands."""
        self._powered = True
        self._left = None
        self._keep(self._stands)

    def has_power(self):
        """Whether there is power."""
        return self._powered

    def twin(self):
        """An independent Disk in the same state."""
        same = Disk({})
        same._kept = self._kept
        same._stands = self._stands
        same._begun = list(self._begun)
        same._powered = self._powered
        same._left = self._left
        same._fates = self._fates
        return same

    def _begin(self, deed):
        if self._left is not None:
            self._left -= 1
        self._begun.append(deed)
        self._stands = done(self._stands, [deed])
        if deed[0] == "sync":
            self._keep(self._stands)

    def _fail(self):
        self._powered = False
        self._left = None
        self._keep(cut(self._kept, self._begun, len(self._begun), self._fates))

    def _keep(self, files):
        self._kept = files
        self._stands = files
        self._begun = []


def _is_path(thing):
    return isinstance(thing, str) and all([_is_part(part) for part in thing.split("/")])


def _is_part(part):
    return 1 <= len(part) <= MOST_PART_SIGNS and all([sign in PART_SIGNS for sign in part])


def _ended(deed, fate):
    """What a DEED that ends by a FATE comes to: a list of one DEED, or of none."""
    if fate == "done":
        return [deed]
    if fate == "lost":
        return []
    if deed[0] == "put":
        return [("put", deed[1], deed[2][:fate])]
    return [] if fate == 0 else [deed]
