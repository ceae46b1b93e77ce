"""How many rounds ranges go until they rest, by their ways through the classes of ranges."""

from axisticks.classes import Classes


class Paths:
    """All ways through the classes of rules that end where ranges rest.

    From each class on a way takes a number of rounds: those after the first one, which leads into the class.
    """

    def __init__(self, rules):
        self._classes = Classes(rules)
        self._edges = {one: self._classes.following(one) for one in self._classes.all_classes()}
        self._sources = {one: [] for one in self._edges}
        for one in self._edges:
            for following, moved in self._edges[one]:
                self._sources[following].append((one, moved))
        self._resting = [one for one in self._edges if len(self._edges[one]) == 0]
        self._toward = self._ways_to_rest()

    def _ways_to_rest(self):
        """Return for each class from which ranges may come to rest the next edge to there, `None` if they rest."""
        toward = {one: None for one in self._resting}
        reached = list(self._resting)
        while len(reached) > 0:
            found = []
            for following in reached:
                for one, moved in self._sources[following]:
                    if one not in toward:
                        toward[one] = (following, moved)
                        found.append(one)
            reached = found
        return toward

    def _rounds_of(self, following, moved):
        """Return how many rounds an edge takes: none if the range rests before the first rule of the next round."""
        return 1 if moved or len(self._edges[following]) > 0 else 0

    def most_rounds(self):
        """Return the greatest number of rounds that ranges take which rest, `None` if there is none."""
        waiting = {}
        for one in self._toward:
            waiting[one] = len([following for following, _ in self._edges[one] if following in self._toward])
        rounds = {one: 0 for one in self._toward}
        ready = list(self._resting)
        done = 0
        # A class is ready when all classes that may follow it are done; those on a circle never are.
        while len(ready) > 0:
            following = ready.pop()
            done = done + 1
            for one, moved in self._sources[following]:
                rounds[one] = max(int(rounds[one]), rounds[following] + self._rounds_of(following, moved))
                waiting[one] = waiting[one] - 1
                if waiting[one] == 0:
                    ready.append(one)
        if done == 0 or done < len(self._toward):
            return None
        return 1 + max([int(rounds[one]) for one in rounds])

    def _layers(self, many):
        """Return dicts, for 0, 1, .. `many` rounds: the classes from which so many or more may be taken to rest.

        The worth is the edge with which such a way begins, `None` at 0.
        """
        layers = [{one: None for one in self._toward}]
        for _ in range(many):
            layer = {}
            for following in layers[-1]:
                for one, moved in self._sources[following]:
                    if self._rounds_of(following, moved) == 1:
                        layer.setdefault(one, (following, moved))
            layers.append(layer)
        return layers

    def _way(self, many):
        """Return the edges, `(class, edge)`, of a way of so many rounds or more to rest, `None` if there is none."""
        layers = self._layers(many)
        if len(layers[-1]) == 0:
            return None
        one = list(layers[-1])[0]
        way = []
        for layer in reversed(layers[1:]):
            way.append((one, layer[one]))
            one = layer[one][0]
        while self._toward[one] is not None:
            way.append((one, self._toward[one]))
            one = self._toward[one][0]
        return way

    def slow_span(self, rounds):
        """Return a range that rests behind so many rounds or more, `None` if there is none."""
        if len(self._resting) == 0:
            return None
        if rounds < 2:
            return self._resting_span(rounds)
        way = self._way(rounds - 1)
        if way is None:
            return None
        low = self._classes.low_of(way[-1][1][0])
        for one, edge in reversed(way):
            low = self._classes.low_before(low, self._edges[one][edge])
        return self._classes.span_of(low, way[0][0])

    def _resting_span(self, rounds):
        """Return a range that rests, behind a round if there is to be one: it lacks so little that a round adds it."""
        one = self._resting[0]
        low, high, digits = self._classes.span_of(self._classes.low_of(one), one)
        if rounds == 0:
            return low, high, digits
        return self._classes.within(low, high, digits)
