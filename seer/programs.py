"""Programs: whether one is well made, and for what it is refused."""

from seer.errors import FixedBox, NoBox, NoCall, NoShape, NoStep, NoSum
from seer.stretches import stretch


def well_made(program):
    if len(program) == 0:
        raise NoShape("there is no function")
    for number in range(len(program)):
        check_function(program, number)
    return True


def check_function(program, number):
    params = program[number][0]
    many = program[number][1]
    if many < 1 or params < 0 or params > many:
        raise NoShape("a function has 1 box or more, and no more parameters than boxes")
    # The main one's parameters may be laid into like other boxes.
    fixed = 0 if number == len(program) - 1 else params
    ahead = [function[0] for function in program[:number]]
    check_body(program[number][2], many, fixed, ahead)


def check_body(body, many, fixed, ahead):
    # ahead has the number of parameters of each function that may be called.
    for statement in body:
        if statement[0] == "say":
            check_claim(statement[1], many)
        elif statement[0] in ("if", "while"):
            check_claim(statement[1], many)
            for inner in statement[2:]:
                check_body(inner, many, fixed, ahead)
        else:
            check_box(statement[1], many, fixed)
            check_laid(statement, many, ahead)


def check_laid(statement, many, ahead):
    if statement[0] == "any":
        stretch(statement[2], statement[3])
    elif statement[0] == "call":
        check_call(statement[2], statement[3], many, ahead)
    else:
        check_sum(statement[2], many)
        if statement[0] in ("part", "rest"):
            check_step(statement[3])


def check_call(function, row, many, ahead):
    if function < 0 or function >= len(ahead):
        raise NoCall("only a function ahead of this one can be called")
    if len(row) != ahead[function]:
        raise NoCall("a call has one argument for each parameter")
    for argument in row:
        check_sum(argument, many)


def check_claim(claim, many):
    check_sum(claim[1], many)
    if claim[0] == "even":
        check_step(claim[2])


def check_box(x, many, fixed):
    if x < 1 or x > many:
        raise NoBox("boxes are counted from 1 to the last one of the function")
    if x <= fixed:
        raise FixedBox("a parameter can be laid into in the main function alone")


def check_sum(one, many):
    if len(one) != many + 1:
        raise NoSum("a sum has a number, and one more for each box")


def check_step(d):
    if d < 1:
        raise NoStep("d is below 1")
