"""The rules that tell how few words an expression can have that fits a need."""

from typingroom.lore import NO_KIND, each_once

OF_NAME = 1
OF_CALL = 3
OF_FIELD = 2
OF_BRACES = 2


class Rules:
    """The rules for a room, and the names so far; a table is a dict from the numbers of needs to those of words."""

    def __init__(self, lore, lets):
        self.lore = lore
        own = [number for types in lore.names.values() for number in types]
        own.extend([number for types in lets.values() for number in types])
        self._own = each_once(own)
        self._results = each_once([row[2] for rows in lore.functions.values() for row in rows])
        self._ways = {}

    def fewest_table(self):
        """The table with the least numbers, of those needs of the room that an expression can fit."""
        table = {}
        is_changed = True
        while is_changed:
            is_changed = False
            calls = self._calls(table)
            for need in self.lore.needs:
                number = self._fewest(need, table, calls)
                if number is not None and (need not in table or number < table[need]):
                    table[need] = number
                    is_changed = True
        return table

    def undercut(self, table):
        """Whether a rule undercuts a number of a table."""
        calls = self._calls(table)
        for need, number in table.items():
            fewest = self._fewest(need, table, calls)
            if fewest is not None and fewest < number:
                return True
        return False

    def _calls(self, table):
        """A dict from the results of calls to what these take without fields, where the table tells it."""
        calls = {}
        for signatures in self.lore.functions.values():
            for parameters, needed, result in signatures:
                numbers = told_numbers(parameters[:needed], table)
                if numbers is not None:
                    keep_fewest(calls, result, OF_CALL + sum(numbers) + max(needed - 1, 0))
        return calls

    def _fewest(self, need, table, calls):
        """The least number that a rule tells for a need, None if none tells one."""
        by_name, by_results = self._ways_to(need)
        numbers = [calls[result] + number for result, number in by_results if result in calls]
        if by_name is not None:
            numbers.append(by_name)
        if need == NO_KIND:
            numbers.append(OF_BRACES)
        elif self.lore.is_record(need):
            inner = told_numbers(list(self.lore.fields[need].values()), table)
            if inner is not None:
                numbers.append(OF_BRACES + sum(inner) + OF_FIELD * len(inner) + max(len(inner) - 1, 0))
        return min(numbers, default=None)

    def _ways_to(self, need):
        """What a name takes for a need, and pairs of the results that lead to it and what their fields take."""
        if need not in self._ways:
            names = self._with_fields(self._own, need)
            by_name = min([OF_NAME + number for _, number in names], default=None)
            self._ways[need] = (by_name, self._with_fields(self._results, need))
        return self._ways[need]

    def _with_fields(self, types, need):
        """Those of the types from which a path leads to one below a need, each with what its fields take."""
        pairs = [(one, self.lore.steps(one, need)) for one in types]
        return [(one, OF_FIELD * steps) for one, steps in pairs if steps is not None]


def told_numbers(needs, table):
    """The list of what a table tells for needs, None if it does not tell all."""
    if not all([need in table for need in needs]):
        return None
    return [table[need] for need in needs]


def keep_fewest(table, key, number):
    """Keep the number in a table, if it tells none for the key, or a greater one."""
    if key not in table or number < table[key]:
        table[key] = number
