"""A world: a hall, looks, and a road on which their letters lie."""

from attachhall.bounds import is_number, is_within
from attachhall.errors import BadLook, NoLook
from attachhall.hall import Hall
from attachhall.looks import Look

# For whom a letter on the road is that is for no name.
TO_HALL = "hall"
ROUNDS = 60


def is_through(look, changes):
    """Tell whether a look knows all changes of its pane, and nothing waits."""
    return look.known() == changes and look.waiting() == 0


class World:
    """Does steps; all that is lost, late or heard twice is told by them."""

    def __init__(self, many):
        self._hall = Hall(many)
        self._many = many
        self._looks = {}
        self._sessions = {}
        self._road = []

    def do(self, step):
        """Do one step."""
        match step:
            case ("come", name, pane, wide, high):
                self._come(name, pane, wide, high)
            case ("press", name, signs):
                self._look(name).press(signs)
            case ("size", name, wide, high):
                self._look(name).resize(wide, high)
            case ("leave", name):
                self._look(name).leave()
            case ("gone", name):
                self._go(name)
            case ("beat",):
                self._hall.beat()
            case ("send",):
                self._send()
            case ("carry", many):
                self._carry(many)
            case ("lose", at):
                self._lose(at)
            case ("twice", at):
                self._hear_again(at)
            case ("cut", at, many):
                self._cut(at, many)
            case ("settle",):
                self._settle()

    def panes(self):
        """Tell the rows, the line, the job and the changes of each pane."""
        return self._hall.panes()

    def typed(self, pane):
        """Tell what was typed into a pane."""
        return self._hall.typed(pane)

    def shown(self):
        """Tell name, session, picture, known changes and waiting signs of each look."""
        looks = [self._looks[name] for name in sorted(self._looks)]
        return [(look.name, look.session, look.picture(), look.known(), look.waiting())
                for look in looks]

    def waits(self):
        """Tell how many letters lie on the road."""
        return len(self._road)

    def _check_there(self, name):
        # A dict takes True for the name 1, and False for 0.
        if not is_number(name) or name not in self._looks:
            raise NoLook(f"there is no look {name}")

    def _look(self, name):
        self._check_there(name)
        return self._looks[name]

    def _come(self, name, pane, wide, high):
        # Ahead of the look, which would refuse its size first.
        if not is_within(pane, 0, self._many - 1):
            raise BadLook(f"there is no pane {pane}")
        session = self._sessions.get(name, 0) + 1
        # Made first: if it is refused, nothing of the name changes.
        look = Look(name, session, pane, wide, high)
        self._looks[name] = look
        self._sessions[name] = session

    def _go(self, name):
        self._check_there(name)
        del self._looks[name]

    def _send(self):
        for name in sorted(self._looks):
            for text in self._looks[name].letters():
                self._road.append((TO_HALL, text))
        self._road.extend(self._hall.letters())

    def _carry(self, many):
        first = max(many, 0)
        carried = self._road[:first]
        self._road = self._road[first:]
        for whom, text in carried:
            self._deliver(whom, text)

    def _deliver(self, whom, text):
        if whom == TO_HALL:
            self._hall.hear(text)
        elif whom in self._looks:
            self._looks[whom].hear(text)

    def _lies(self, at):
        return is_within(at, 0, len(self._road) - 1)

    def _lose(self, at):
        if self._lies(at):
            del self._road[at]

    def _hear_again(self, at):
        if self._lies(at):
            whom, text = self._road[at]
            self._deliver(whom, text)

    def _cut(self, at, many):
        if self._lies(at):
            whom, text = self._road[at]
            self._road[at] = (whom, text[:max(many, 0)])

    def _settle(self):
        for _ in range(ROUNDS):
            self._send()
            self._carry(len(self._road))
            if self._is_settled():
                return

    def _is_settled(self):
        changes = [pane[3] for pane in self._hall.panes()]
        # The hall heard just now of each look that left: it is not there.
        return all([look.has_left() or is_through(look, changes[look.pane])
                    for look in self._looks.values()])


def played(many, steps):
    """Tell the world of so many panes behind a list of steps."""
    world = World(many)
    for step in steps:
        world.do(step)
    return world
