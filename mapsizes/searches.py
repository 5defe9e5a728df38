"""Searches: what all weavings of a plan lead to."""

from mapsizes.changes import changes_nothing


def all_states(turns):
    """Returns all states, each once, in the order of the least weavings that lead to them."""
    # All weavings that lead to a state have as many turns, so each state is on one level alone; and as the states of a
    # level come in the order of their least weavings, so do those that are first reached from it.
    found = []
    level = {turns.beginning(): True}
    while level != {}:
        found.extend(list(level))
        level = {turns.after(state, hand): True for state in level for hand in turns.ready(state)}
    return found


def least_weavings(turns):
    """Returns a dict from the outcomes of all complete weavings to the least weavings, tuples, that have them."""
    found = {}
    level = {turns.beginning(): ()}
    while level != {}:
        behind = {}
        for state, weaving in level.items():
            ready = turns.ready(state)
            if ready == []:
                found.setdefault(turns.outcome(state), weaving)
            for hand in ready:
                after = turns.after(state, hand)
                if after not in behind:
                    behind[after] = (*weaving, hand)
        level = behind
    return found


class Reach:
    """The results that complete weavings can have, where the turns leave out answers.

    A turn is quiet if it changes nothing, neither the file nor the names that are held, and goes on whatever is in the
    file. Quiet turns lead nowhere else, whenever they are taken; so the states of this search are those in which all of
    them are taken at once. `told` tells the result of a complete state.
    """

    def __init__(self, turns, told):
        self._turns = turns
        self._ways = {}
        self._left = {}
        beginning = turns.beginning()
        settled = [self._settled(row, beginning[-1]) for row in beginning[:-1]]
        self._start = (*[row for row, _ in settled], beginning[-1])
        self._start_dues = [due for _, due in settled]
        self._find_ways()
        for state in reversed(list(self._ways)):
            self._left[state] = self._results_from(state, told)

    def results(self):
        """Returns the list of all results."""
        return list(self._left[self._start])

    def least(self, result):
        """Returns the least complete weaving that has a result."""
        state, dues = self._start, list(self._start_dues)
        weaving = []
        hand = self._hand_towards(state, dues, result)
        while hand is not None:
            weaving.append(hand)
            if dues[hand] > 0:
                dues[hand] -= 1
            else:
                state, count = self._ways[state][hand]
                dues[hand] = count - 1
            hand = self._hand_towards(state, dues, result)
        return weaving

    def _hand_towards(self, state, dues, result):
        """Returns the least hand whose turn leads to a result with the fewest turns, None if no turn is left."""
        ways, left = self._ways[state], self._left[state][result]
        for hand, due in enumerate(dues):
            # A quiet turn that is due has to be taken at some time; the least hand takes it now.
            if due > 0:
                return hand
            if hand in ways:
                after, count = ways[hand]
                if self._left[after].get(result, left) + count == left:
                    return hand
        return None

    def _find_ways(self):
        """Finds all states, and for each one the hands that are ready with the state behind and the turns taken."""
        level = [self._start]
        while level != []:
            for state in level:
                self._ways[state] = {hand: self._way(state, hand) for hand in self._turns.ready(state)}
            behind = {after: True for state in level for after, _ in self._ways[state].values()}
            level = list(behind)

    def _way(self, state, hand):
        row, file, _ = self._turns.moved(state[hand], state[-1])
        row, due = self._settled(row, file)
        return (*state[:hand], row, *state[hand + 1:-1], file), 1 + due

    def _settled(self, row, file):
        """Returns the row behind all quiet turns that the hand can take, and how many these are."""
        due = 0
        while self._is_quiet(row):
            row, _, _ = self._turns.moved(row, file)
            due += 1
        return row, due

    def _is_quiet(self, row):
        hand, answers, turn, over = self._turns.known_rows[row]
        if over or (hand, len(answers)) in self._turns.noted:
            return False
        tasks = self._turns.plan.tasks[hand]
        # A hand that ends holds no name any more, so its last step is not quiet if it holds one.
        if len(answers) + 1 == len(tasks) and self._turns.held[row] != []:
            return False
        return changes_nothing(self._turns.plan, tasks[len(answers)], turn)

    def _results_from(self, state, told):
        """Returns a dict from the results that a state can lead to, to the fewest turns that are left until then."""
        if self._ways[state] == {}:
            return {told(state): 0}
        found = {}
        for after, count in self._ways[state].values():
            for result, left in self._left[after].items():
                found[result] = min(found.get(result, left + count), left + count)
        return found
