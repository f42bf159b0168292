"""Tables and notes that are kept on a disk, wherever power fails."""

from enoughlooks.disk import Disk, done
from enoughlooks.errors import NoTable, PowerCut, Wrong
from enoughlooks.journal import commit_deeds, is_change, is_sound, mend_deeds, root_in, tables_in, tree_in
from enoughlooks.trees import nearest


class Store:
    """TABLES and notes on a Disk of its own."""

    def __init__(self, files):
        if not is_sound(files):
            raise Wrong(0)
        self._disk = Disk(files)

    def __eq__(self, other):
        return isinstance(other, Store) and self._disk == other._disk

    def tables(self):
        """The TABLES on the disk."""
        return tables_in(self._disk.files())

    def notes(self):
        """The notes on the disk."""
        return root_in(self._disk.files())[2]

    def commits(self):
        """The number of the commits that made what is on the disk."""
        return root_in(self._disk.files())[0]

    def nearest(self, name, prefix, x):
        """Whether x is there behind prefix in a table, and the values there next below and above it."""
        files = self._disk.files()
        if name not in root_in(files)[1]:
            raise NoTable(name)
        return nearest(tree_in(files, name), prefix, x)

    def commit(self, changes):
        """Makes all CHANGES, or none of them."""
        if not isinstance(changes, (list, tuple)) or not all([is_change(change) for change in changes]):
            raise Wrong(0)
        if not self._disk.has_power():
            raise PowerCut()
        files = self._disk.files()
        mending = mend_deeds(files)
        # All deeds are told ahead of the first one, so that a change that cannot be made leaves the disk as it was.
        deeds = commit_deeds(done(files, mending), changes)
        self._disk.do(mending + deeds)

    def mend(self):
        """Takes away what a commit that was cut has left."""
        self._disk.do(mend_deeds(self._disk.files()))

    def fuse(self, many, fates):
        """Lets the disk's power fail ahead of the deed behind so many more."""
        self._disk.fuse(many, fates)

    def power(self):
        """Brings the disk's power back."""
        self._disk.power()

    def has_power(self):
        """Whether the disk has power."""
        return self._disk.has_power()

    def files(self):
        """What stands on the disk."""
        return self._disk.files()

    def twin(self):
        """An independent Store whose Disk is in the same state."""
        same = Store({})
        same._disk = self._disk.twin()
        return same
