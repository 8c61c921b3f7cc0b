"""[4] for a list of functions with arguments: arguments stay, answers are new, equal ones for equal arguments."""

import copy


def written(value):
    """A value with everything in it that may be compared, the order of keys included."""
    if isinstance(value, dict):
        return ("dict", [(written(key), written(value[key])) for key in value])
    if isinstance(value, (tuple, list)):
        return (type(value).__name__, [written(part) for part in value])
    if isinstance(value, (int, str, type(None))):
        return (type(value).__name__, value)
    return (type(value).__name__, [(name, written(part)) for name, part in sorted(vars(value).items())])


def unordered(value):
    """A value with everything in it that may be compared, the order of keys left out."""
    if isinstance(value, (tuple, list)):
        return [unordered(part) for part in value]
    if isinstance(value, dict):
        return {key: unordered(part) for key, part in value.items()}
    if isinstance(value, (int, str, type(None))):
        return value
    return {name: unordered(part) for name, part in vars(value).items()}


def spoil(value):
    """Clear all dicts of an argument, also those in its tuples."""
    if isinstance(value, dict):
        value.clear()
    elif isinstance(value, tuple):
        for part in value:
            spoil(part)


class EveryCall:
    """Tests of all pairs (function, arguments by their names) of `calls`; those of `kinds` keep their arguments."""

    calls = ()
    kinds = ()

    def test_by_position_and_by_name(self):
        for function, told in self.calls:
            answer = function(**told)
            self.assertEqual(written(function(*told.values())), written(answer), function.__name__)

    def test_arguments_stay_as_they_were(self):
        for function, told in self.calls:
            before = written(told)
            function(**told)
            self.assertEqual(written(told), before, function.__name__)

    def test_equal_arguments_give_equal_results(self):
        for function, told in self.calls:
            answer = function(**told)
            again = {name: copy.deepcopy(value) for name, value in told.items()}
            self.assertEqual(written(function(**again)), written(answer), function.__name__)
            turned = {name: dict(reversed(list(value.items()))) if isinstance(value, dict) else value
                      for name, value in told.items()}
            self.assertEqual(unordered(function(**turned)), unordered(answer), function.__name__)

    def test_a_changed_answer_changes_no_later_one(self):
        for function, told in self.calls:
            answer = function(**told)
            if isinstance(answer, dict):
                before = written(answer)
                answer.clear()
                self.assertEqual(written(function(**told)), before, function.__name__)
                answer = function(**told)
                for key in list(answer):
                    answer[key] = None
                self.assertEqual(written(function(**told)), before, function.__name__)

    def test_a_changed_argument_changes_no_earlier_answer(self):
        for function, told in self.calls:
            passed = {name: copy.deepcopy(value) for name, value in told.items()}
            answer = function(**passed)
            before = written(answer)
            for value in passed.values():
                spoil(value)
            self.assertEqual(written(answer), before, function.__name__)

    def test_changed_attributes_of_answers_change_no_later_ones(self):
        for function, told in self.calls:
            answer = function(**told)
            if hasattr(answer, "__dict__") and function not in self.kinds:
                before = written(function(**told))
                for value in vars(answer).values():
                    spoil(value)
                self.assertEqual(written(function(**told)), before, function.__name__)

    def test_objects_keep_their_arguments(self):
        for kind, told in self.calls:
            if kind in self.kinds:
                made = kind(**told)
                for name, value in told.items():
                    self.assertEqual(unordered(getattr(made, name)), unordered(value), kind.__name__)
