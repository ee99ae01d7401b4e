"""Walks of few turns: steps of one person one behind another."""

from lastfaces.takings import Takings
from lastfaces.therule import check_goes
from lastfaces.walks import check_walk, turned
from lastfaces.ways import way_through


class TurnSearch:
    """How many turns take in all that is left, and by which row; rooms are told by bits."""

    def __init__(self, takings):
        self._takings = takings
        # By what is taken in: with how many turns at most it was seen that something is left.
        self._too_few = {}

    def further(self, person, taken):
        """Returns what is taken in behind a turn of a person."""
        return taken | self._takings.taken_by(person, taken)

    def lacking_names(self, taken):
        """Returns the ascending list of the people who have rooms left."""
        return [person for person in self._takings.all_names() if self._takings.lacking(person, taken)]

    def is_enough(self, taken, many):
        """Tells whether so many turns, or fewer, take in all that is left."""
        names = self.lacking_names(taken)
        if not names:
            return True
        if len(names) > many or self._too_few.get(taken, 0) >= many:
            return False
        behind = [self.further(person, taken) for person in names]
        done = [more for person, more in zip(names, behind) if not self._takings.lacking(person, more)]
        # Who can take in all of its rooms has to have a turn some time, and bars nobody by having it now.
        for now in done[:1] or sorted({more for more in behind if more != taken}):
            if self.is_enough(now, many - 1):
                return True
        self._too_few[taken] = many
        return False

    def fewest(self):
        """Returns how many turns the shortest row has behind which no room is left: there is one."""
        many = 0
        while not self.is_enough(self._takings.at_first(), many):
            many += 1
        return many

    def first_row(self):
        """Returns the first of the shortest rows behind which no room is left."""
        row = []
        taken = self._takings.at_first()
        for many in reversed(range(self.fewest())):
            for person in self.lacking_names(taken):
                if self.is_enough(self.further(person, taken), many):
                    row.append(person)
                    break
            taken = self.further(row[-1], taken)
        return row


def turns_of(house, start, steps):
    """Returns the list of the people of a walk, turn by turn."""
    check_walk(house, start, steps)
    people = []
    for person, _ in steps:
        if people[-1:] != [person]:
            people.append(person)
    return people


def fewest_turns(house, placing, faces):
    """Returns how few turns walks have that end as a placing and a map tell."""
    return len(first_row(house, placing, faces))


def first_row(house, placing, faces):
    """Returns the first of the shortest rows of turns behind which no room is left."""
    check_goes(house, placing, faces)
    return TurnSearch(Takings(house, placing, faces)).first_row()


def walk_in_turns(house, placing, faces):
    """Returns a walk (start, steps) of the fewest turns that ends as a placing and a map tell."""
    row = first_row(house, placing, faces)
    takings = Takings(house, placing, faces)
    taken = takings.at_first()
    where = dict(placing)
    steps = []
    for person in row:
        more = takings.taken_by(person, taken)
        taken |= more
        through = takings.rooms_in(taken)
        for room in takings.rooms_in(more):
            way = way_through(house, through, where[person], room)
            steps.extend([(person, further) for further in way[1:]])
            where[person] = room
    # Turned about in time, people begin where they stand at last, and first faces are last ones.
    return turned(house, placing, steps)
