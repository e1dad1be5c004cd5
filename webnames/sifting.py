"""A chain of levels through which just the members of a group sift, made with the steps of a group paper."""

from webnames.numberings import back, straight, then


class Entry:
    """A numbering of a level with its way back, and the places of the steps that stand for both."""

    def __init__(self, numbering, home, step, home_step):
        self.numbering = numbering
        self.home = home
        self.step = step
        self.home_step = home_step


class Chain:
    """For each part k, the entries that move k to the parts of its orbit and keep each part below k.

    levels has a dict for each k, from the part to which k is moved to the Entry. Pairs of entries wait until it
    is seen that the first, then the second, sifts; what does not sift leaves a new entry.
    """

    def __init__(self, many, numberings):
        self.steps = [("stay",)]
        self.levels = []
        self.waiting = []
        for k in range(many):
            self.levels.append({k: Entry(straight(many), straight(many), 0, 0)})
        for place, numbering in enumerate(numberings):
            self.take_in(numbering, ("given", place))
        while self.waiting:
            first, second = self.waiting.pop()
            self.take_in(then(first.numbering, second.numbering), ("then", first.step, second.step))

    def sift(self, numbering):
        """`(level, left, passed)`: where the numbering falls, what is left of it there, and the entries it passed.

        The level is the number of levels if the numbering sifts. Straight entries are not told as passed.
        """
        left = numbering
        passed = []
        for k, level in enumerate(self.levels):
            if left[k] != k:
                entry = level.get(left[k])
                if entry is None:
                    return (k, left, passed)
                left = then(left, entry.home)
                passed.append(entry)
        return (len(self.levels), left, passed)

    def has(self, numbering):
        """Whether the numbering sifts."""
        return self.sift(numbering)[0] == len(self.levels)

    def add_step(self, step):
        """Notes a step and returns its place."""
        self.steps.append(step)
        return len(self.steps) - 1

    def take_in(self, numbering, step):
        """Makes a new entry of what is left of the numbering, for which the step stands, if it does not sift."""
        k, left, passed = self.sift(numbering)
        if k == len(self.levels):
            return
        at = self.add_step(step)
        for entry in passed:
            at = self.add_step(("then", at, entry.home_step))
        entry = Entry(left, back(left), at, self.add_step(("back", at)))
        self.levels[k][left[k]] = entry
        self.wait_with(entry, k)

    def wait_with(self, entry, k):
        """Lets all pairs of the new entry of level k with an entry wait, the one of the lesser level first."""
        for j, level in enumerate(self.levels):
            for part, other in level.items():
                if part != j and j >= k:
                    self.waiting.append((entry, other))
                if part != j and (j < k or j == k and other.step != entry.step):
                    self.waiting.append((other, entry))

    def order(self, first=0):
        """The number of the members that keep each part below the first one."""
        number = 1
        for level in self.levels[first:]:
            number *= len(level)
        return number
