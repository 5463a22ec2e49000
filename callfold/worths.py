"""Expressions: what they are worth, which names stand in them, how deep they are.

An expression is ("number", value), ("name", name) or (word, left, right).
"""

from callfold.errors import Broken

# Values go from 0 to one less than this.
VALUES = 1000000


def worth_of(expression, held):
    word = expression[0]
    if word == "number":
        return expression[1]
    if word == "name":
        return held.get(expression[1], 0)
    left = worth_of(expression[1], held)
    right = worth_of(expression[2], held)
    if word == "over" or word == "rest":
        return divided(word, left, right)
    if word == "under" or word == "same":
        return compared(word, left, right)
    return reckoned(word, left, right)


def reckoned(word, left, right):
    if word == "plus":
        return (left + right) % VALUES
    if word == "less":
        return (left - right) % VALUES
    return left * right % VALUES


def divided(word, left, right):
    if right == 0:
        raise Broken(f"{word} by nought")
    if word == "over":
        return left // right
    return left % right


def compared(word, left, right):
    holds = left < right if word == "under" else left == right
    return 1 if holds else 0


def names_in(expression):
    word = expression[0]
    if word == "number":
        return []
    if word == "name":
        return [expression[1]]
    return names_in(expression[1]) + names_in(expression[2])


def depth_of(expression):
    if expression[0] == "number" or expression[0] == "name":
        return 1
    return 1 + max(depth_of(expression[1]), depth_of(expression[2]))
