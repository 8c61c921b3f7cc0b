"""Expressions of courses: their normal form, and the endings that they describe."""

from stillowed.errors import InvalidNumber, Refused
from stillowed.kinds import is_number_to, row_order

MOST_SIZE = 8
MOST_ROWS = 1000


def normal(expression):
    """The expression with no seq as a part of a seq and no either as a part of an either."""
    word = expression[0]
    if word in ("maybe", "again"):
        return (word, normal(expression[1]))
    if word not in ("seq", "either"):
        return expression
    parts = []
    for part in expression[1]:
        inner = normal(part)
        if inner[0] == word:
            parts.extend(inner[1])
        else:
            parts.append(inner)
    return (word, tuple(parts))


def marks_in(expression):
    """How many deeds and calls are written in an expression."""
    word = expression[0]
    if word in ("deed", "call"):
        return 1
    if word == "nothing":
        return 0
    parts = expression[1] if word in ("seq", "either") else (expression[1],)
    return sum([marks_in(part) for part in parts])


def rows_of(courses, name, size):
    """All endings of at most `size` deeds of the first stage of a course, by the expressions, in order."""
    if not is_number_to(size, MOST_SIZE):
        raise InvalidNumber("size")
    written = Written(courses, size)
    written.grow_all()
    found = written.rows_of_course(name)
    return tuple(sorted(found, key=row_order))


class Written:
    """Everything that is written in some courses, each with its rows of at most `size` deeds so far.

    A seq stands as a chain of pairs, since its beginnings may not have too many rows either.
    """

    def __init__(self, courses, size):
        self.size = size
        self.nodes = []
        self.rows = []
        self.roots = {}
        for course, expression in courses:
            self.roots[course] = self.put(expression)

    def put(self, expression):
        """Put an expression behind its parts, and return its number."""
        word = expression[0]
        if word in ("seq", "either"):
            numbers = []
            for part in expression[1]:
                numbers.append(self.put(part))
            return self.put_chain(numbers) if word == "seq" else self.put_node(word, tuple(numbers))
        if word in ("maybe", "again"):
            return self.put_node(word, (self.put(expression[1]),))
        if word == "nothing":
            return self.put_node(word, ())
        return self.put_node(word, expression[1])

    def put_chain(self, numbers):
        """Put a pair for each beginning of a seq of two or more parts, and return the number of the last one."""
        last = numbers[0]
        for number in numbers[1:]:
            last = self.put_node("pair", (last, number))
        return last

    def put_node(self, word, told):
        """Put one node and return its number."""
        self.nodes.append((word, told))
        self.rows.append([{} for _ in range(self.size + 1)])
        return len(self.nodes) - 1

    def rows_of_course(self, name):
        """The rows found for a course."""
        return [row for layer in self.rows[self.roots[name]] for row in layer]

    def grow_all(self):
        """Let all nodes grow until none does."""
        users = self.users()
        queue = list(range(len(self.nodes)))
        queued = {number: True for number in queue}
        at = 0
        while at < len(queue):
            number = queue[at]
            at += 1
            del queued[number]
            if self.grow(number):
                for user in users[number]:
                    if user not in queued:
                        queued[user] = True
                        queue.append(user)

    def users(self):
        """For each node, the nodes whose rows are made of its rows."""
        found = [[] for _ in self.nodes]
        for number, (word, told) in enumerate(self.nodes):
            if word == "call" and told in self.roots:
                found[self.roots[told]].append(number)
            if word in ("pair", "either", "maybe", "again"):
                for part in told:
                    found[part].append(number)
        return found

    def grow(self, number):
        """Add to a node what its parts give now, and return whether that is more than before."""
        before = self.rows_found(number)
        for length in range(self.size + 1):
            self.grow_layer(number, length)
            if self.rows_found(number) > MOST_ROWS:
                raise Refused("wide")
        return self.rows_found(number) > before

    def rows_found(self, number):
        """How many rows a node has."""
        return sum([len(layer) for layer in self.rows[number]])

    def grow_layer(self, number, length):
        """Add to a node the rows with so many deeds that its parts give now."""
        word, told = self.nodes[number]
        layer = self.rows[number][length]
        if word == "deed":
            if length == 1:
                layer[(told,)] = True
            return
        if length == 0 and word in ("nothing", "maybe", "again"):
            layer[()] = True
        if word == "call":
            self.copy_rows(layer, self.roots.get(told), length)
        elif word == "pair":
            self.join_rows(layer, told[0], told[1], 0, length)
        elif word == "again":
            self.join_rows(layer, told[0], number, 1, length)
        else:
            for part in told:
                self.copy_rows(layer, part, length)

    def copy_rows(self, layer, number, length):
        """Add the rows of a node with so many deeds, if there is such a node."""
        if number is not None:
            for row in list(self.rows[number][length]):
                layer[row] = True

    def join_rows(self, layer, first, second, least, length):
        """Add the rows of so many deeds made of one row of each node, the first with at least `least` deeds."""
        for taken in range(least, length + 1):
            starts = self.rows[first][taken]
            rests = self.rows[second][length - taken]
            # Such products are all unlike.
            if len(starts) * len(rests) > MOST_ROWS:
                raise Refused("wide")
            for row in starts:
                for rest in rests:
                    layer[row + rest] = True
