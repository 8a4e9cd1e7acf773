"""The classes of tables of a book."""


def all_classes(many, bound):
    """Return the ascending list of the tuples of so many integers from 0 to a bound."""
    classes = [()]
    for _ in range(many):
        classes = [(*numbers, number) for numbers in classes for number in range(bound + 1)]
    return classes


def by_size(classes):
    """Return a list of tuples of integers in ascending order of their sums, then of the tuples."""
    return [numbers for _, numbers in sorted([(sum(numbers), numbers) for numbers in classes])]
