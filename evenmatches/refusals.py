"""The answers of calls that are refused."""


def out_of_range():
    return [-1]


def none_of_that_number():
    return [-2]


def not_the_time():
    return [-3]


def not_so():
    return [-4]


def no_place():
    return [-5]
